/- Contracts: the reference's names and variables; what is known; two lists of variables held against one another. Condition: texts and lists that are not too long. -/
import Derived.Test.YtmjadcjpgcbalaaDoorVrEnd
import Derived.Lib.LazyBuf
namespace Go.Proofs.YtmjadcjpgcbalaaDoor
open Go.ChangeShapes Go.WideShapes Go.ChangeAt Go.RowKit
open SpanM SetM
attribute [local go_sem ↓] Go.wp_at_zero Go.wp_at_succ
set_option maxRecDepth 100000
set_option linter.unusedVariables false
theorem rlet_m (n : Int) (h0 : 0 ≤ n) (h1 : n < 256) (w : World) : Calls Tryd.prog 59 #[.int .u8 n] w fun e w' => e = .returned (.bool (letZ n)) ∧ w = w' := by
  unfold letZ uppZ lowZ
  rcases hb1 : decide (65 ≤ n) with _ | _ <;> rcases hb2 : decide (n ≤ 90) with _ | _ <;> rcases hb3 : decide (97 ≤ n) with _ | _ <;> rcases hb4 : decide (n ≤ 122) with _ | _
  all_goals
    go_enter Tryd.func59, Tryd.ntmps59
    go_wp2
    go_ret
    exact ⟨rfl, rfl⟩
theorem rdig_m (n : Int) (h0 : 0 ≤ n) (h1 : n < 256) (w : World) : Calls Tryd.prog 60 #[.int .u8 n] w fun e w' => e = .returned (.bool (digZ n)) ∧ w = w' := by
  unfold digZ
  rcases hb1 : decide (48 ≤ n) with _ | _ <;> rcases hb2 : decide (n ≤ 57) with _ | _
  all_goals
    go_enter Tryd.func60, Tryd.ntmps60
    go_wp2
    go_ret
    exact ⟨rfl, rfl⟩
def okN (x : ByteArray) (j : Nat) (c : Int) : Bool := letZ c || (c == 95 || (!(j == 0) && digZ c))
theorem dig_nl (c : Int) (h : digZ c = true) : letZ c = false ∧ (c == 95) = false := by
  unfold digZ at h
  unfold letZ uppZ lowZ
  simp at h ⊢
  omega
theorem nameB_iff (x : ByteArray) : nameB x = true ↔ 0 < x.size ∧ x.size ≤ 64 ∧ ∀ j (h : j < x.size), okN x j (x[j].toNat : Int) = true := by
  unfold nameB
  constructor
  · intro h
    simp only [Bool.and_eq_true, decide_eq_true_eq, Bool.not_eq_true', List.all_eq_true] at h
    obtain ⟨⟨⟨h1, h2⟩, h3⟩, h4⟩ := h
    refine ⟨h1, h2, fun j hj => ?_⟩
    have h5 : namZ ((x[j].toNat : Nat) : Int) = true := h4 x[j] (List.getElem_mem (l := x.data.toList) (by exact hj))
    rw [get_l x 0 h1] at h3
    unfold namZ at h5
    unfold okN
    rcases Nat.eq_zero_or_pos j with h0 | h0
    · subst h0
      rw [h3] at h5
      simpa using h5
    · rw [show (j == 0) = false from beq_eq_false_iff_ne.2 (by omega)]
      simp only [Bool.or_eq_true, Bool.not_false, Bool.true_and] at h5 ⊢
      rcases h5 with h5 | h5 | h5
      · exact .inl h5
      · exact .inr (.inr h5)
      · exact .inr (.inl h5)
  · rintro ⟨h1, h2, h3⟩
    simp only [Bool.and_eq_true, decide_eq_true_eq, Bool.not_eq_true', List.all_eq_true]
    refine ⟨⟨⟨h1, h2⟩, ?_⟩, ?_⟩
    · rw [get_l x 0 h1]
      have h5 := h3 0 h1
      cases hd : digZ ((x[0].toNat : Nat) : Int)
      · rfl
      · obtain ⟨h6, h7⟩ := dig_nl _ hd
        unfold okN at h5
        rw [h6, h7] at h5
        simp at h5
    · intro c hc
      obtain ⟨j, hj, rfl⟩ := List.getElem_of_mem hc
      have h5 := h3 j hj
      unfold okN at h5
      unfold namZ
      show (letZ ((x[j].toNat : Nat) : Int) || (digZ ((x[j].toNat : Nat) : Int) || ((x[j].toNat : Nat) : Int) == 95)) = true
      simp only [Bool.or_eq_true, Bool.and_eq_true] at h5 ⊢
      rcases h5 with h5 | h5 | h5
      · exact .inl h5
      · exact .inr (.inr h5)
      · exact .inr (.inl h5.2)
theorem nameB_no (x : ByteArray) (h : ¬ (0 < x.size ∧ x.size ≤ 64 ∧ ∀ j (h : j < x.size), okN x j (x[j].toNat : Int) = true)) : nameB x = false := by
  cases hb : nameB x
  · rfl
  · exact absurd ((nameB_iff x).1 hb) h
set_option maxHeartbeats 8000000 in
theorem rname_any (x : ByteArray) (hx : x.size ≤ 1000000) (b : Bool) (hb : nameB x = b) (w : World) : Calls Tryd.prog 33 #[.string x] w fun e w' => e = .returned (.bool b) ∧ w = w' := by
  by_cases h0 : x.size = 0
  · have hb2 := (nameB_no x (fun h => by omega)).symm.trans hb
    subst hb2
    have g0 : ((x.size : Int) == 0) = true := beq_iff_eq.2 (by omega)
    have g0' : (x.size == 0) = true := beq_iff_eq.2 h0
    clear hb h0
    go_enter Tryd.func33, Tryd.ntmps33
    go_wp2
    go_ret
    exact ⟨rfl, rfl⟩
  have g0 : ((x.size : Int) == 0) = false := beq_eq_false_iff_ne.2 (by omega)
  have g0' : (x.size == 0) = false := beq_eq_false_iff_ne.2 h0
  by_cases h64 : 64 < x.size
  · have hb2 := (nameB_no x (fun h => by omega)).symm.trans hb
    subst hb2
    have g1 : decide ((64 : Int) < (x.size : Int)) = true := decide_eq_true (by omega)
    have g1' : decide (64 < x.size) = true := decide_eq_true h64
    clear hb h0 h64
    go_enter Tryd.func33, Tryd.ntmps33
    go_wp2
    go_ret
    exact ⟨rfl, rfl⟩
  have g1 : decide ((64 : Int) < (x.size : Int)) = false := decide_eq_false (by omega)
  have g1' : decide (64 < x.size) = false := decide_eq_false h64
  have HB := hide hb
  have H64 := hide (And.intro h0 h64)
  clear hb h0 h64
  go_enter Tryd.func33, Tryd.ntmps33
  go_wp2
  clear g0 g0' g1 g1'
  go_loopw [3] (fun i wr => ∃ k : Nat, i = .int .i64 k ∧ k ≤ x.size ∧ Hid (∀ j (hj : j < x.size), j < k → okN x j (x[j].toNat : Int) = true) ∧ w = wr) (fun i _ => x.size - (intOf i).toNat)
  case atStart => exact ⟨0, rfl, Nat.zero_le _, hide (fun j _ h => by omega), rfl⟩
  case round =>
    obtain ⟨k, rfl, hk, HA, rfl⟩ := hrel
    by_cases hlt : k < x.size
    · have gl : decide (k < x.size) = true := decide_eq_true hlt
      have gl' : decide ((k : Int) < (x.size : Int)) = true := decide_eq_true (by omega)
      have HL := hide (fun W => rlet_m ((x[k].toNat : Nat) : Int) (u8_lt _).1 (u8_lt _).2 W)
      have HD := hide (fun W => rdig_m ((x[k].toNat : Nat) : Int) (u8_lt _).1 (u8_lt _).2 W)
      have HOK := hide (fun (ho : okN x k ((x[k].toNat : Nat) : Int) = true) => show ∀ j (hj : j < x.size), j < k + 1 → okN x j (x[j].toNat : Int) = true from fun j hj h => by
        rcases Nat.eq_or_lt_of_le (Nat.le_of_lt_succ h) with h1 | h1
        · subst h1; exact ho
        · exact HA.out j hj h1)
      have HNO := hide (fun (ho : okN x k ((x[k].toNat : Nat) : Int) = false) => show b = false from (HB.out.symm.trans (nameB_no x (fun h => by rw [h.2.2 k hlt] at ho; cases ho))))
      clear HA
      rcases h95 : (((x[k].toNat : Nat) : Int) == 95) with _ | _ <;> rcases hl : letZ ((x[k].toNat : Nat) : Int) with _ | _ <;> rcases hd : digZ ((x[k].toNat : Nat) : Int) with _ | _ <;> rcases hk0 : (k == 0) with _ | _
      all_goals
        have hok : okN x k ((x[k].toNat : Nat) : Int) = (letZ ((x[k].toNat : Nat) : Int) || ((((x[k].toNat : Nat) : Int) == 95) || (!(k == 0) && digZ ((x[k].toNat : Nat) : Int)))) := rfl
        rw [h95, hl, hd, hk0] at hok
        rw [hl] at HL
        rw [hd] at HD
        have g95 : (((x[k].toNat : Nat) : Int) != 95) = !(((x[k].toNat : Nat) : Int) == 95) := rfl
        rw [h95] at g95
        have gk0 : ((k : Int) == 0) = (k == 0) := by rw [Bool.eq_iff_iff, beq_iff_eq, beq_iff_eq]; omega
        rw [hk0] at gk0
        clear hl hd
        first
          | (have HN := hide (HNO.out hok)
             clear hok HNO HOK
             go_wp2_with (first | (go_at_call 59; refine (HL.out _).mono ?_; rintro e w1 ⟨rfl, hw1⟩; subst hw1) | (go_at_call 60; refine (HD.out _).mono ?_; rintro e w1 ⟨rfl, hw1⟩; subst hw1))
             go_ret
             exact ⟨by rw [HN.out]; rfl, by first | rfl | trivial⟩)
          | (have HN := hide (HOK.out hok)
             clear hok HNO HOK
             go_wp2_with (first | (go_at_call 59; refine (HL.out _).mono ?_; rintro e w1 ⟨rfl, hw1⟩; subst hw1) | (go_at_call 60; refine (HD.out _).mono ?_; rintro e w1 ⟨rfl, hw1⟩; subst hw1))
             refine ⟨?_, by first | (simp [intOf]; done) | (simp [intOf]; omega)⟩
             first
               | exact ⟨k + 1, by go_num, by omega, HN, by first | rfl | trivial⟩
               | ((repeat apply Exists.intro); exact ⟨⟨k + 1, by go_num, by omega, HN, by first | rfl | trivial⟩, rfl⟩))
    · obtain rfl : k = x.size := by omega
      have gl : decide (x.size < x.size) = false := by simp
      have hb2 := HB.out.symm.trans ((nameB_iff x).2 ⟨by have := H64.out.1; omega, by have := H64.out.2; omega, fun j hj => HA.out j hj hj⟩)
      subst hb2
      clear HA HB H64 hlt
      go_wp2
      go_ret
      exact ⟨rfl, by first | rfl | trivial⟩
def KL : List (List UInt8) := [[84, 77, 95, 83, 69, 76, 69, 67, 84, 69, 68, 95, 84, 69, 88, 84], [84, 77, 95, 67, 85, 82, 82, 69, 78, 84, 95, 76, 73, 78, 69], [84, 77, 95, 67, 85, 82, 82, 69, 78, 84, 95, 87, 79, 82, 68], [84, 77, 95, 76, 73, 78, 69, 95, 73, 78, 68, 69, 88], [84, 77, 95, 76, 73, 78, 69, 95, 78, 85, 77, 66, 69, 82], [84, 77, 95, 70, 73, 76, 69, 78, 65, 77, 69], [84, 77, 95, 70, 73, 76, 69, 78, 65, 77, 69, 95, 66, 65, 83, 69], [84, 77, 95, 68, 73, 82, 69, 67, 84, 79, 82, 89], [84, 77, 95, 70, 73, 76, 69, 80, 65, 84, 72], [67, 76, 73, 80, 66, 79, 65, 82, 68], [87, 79, 82, 75, 83, 80, 65, 67, 69, 95, 78, 65, 77, 69], [82, 65, 78, 68, 79, 77], [82, 65, 78, 68, 79, 77, 95, 72, 69, 88], [85, 85, 73, 68], [67, 85, 82, 82, 69, 78, 84, 95, 89, 69, 65, 82], [67, 85, 82, 82, 69, 78, 84, 95, 77, 79, 78, 84, 72], [67, 85, 82, 82, 69, 78, 84, 95, 68, 65, 84, 69], [67, 85, 82, 82, 69, 78, 84, 95, 72, 79, 85, 82], [67, 85, 82, 82, 69, 78, 84, 95, 77, 73, 78, 85, 84, 69], [67, 85, 82, 82, 69, 78, 84, 95, 83, 69, 67, 79, 78, 68], [73, 78, 68, 69, 78, 84]]
def knB (nm : ByteArray) : Bool := KL.any fun L => nm.toList == L
set_option maxHeartbeats 8000000 in
theorem known_any (nm : ByteArray) (w : World) : Calls Tryd.prog 17 #[.string nm] w fun e w' => e = .returned (.bool (knB nm)) ∧ w = w' := by
  obtain ⟨b, hb⟩ : ∃ b, knB nm = b := ⟨_, rfl⟩
  rw [hb]
  have HB := hide hb
  clear hb
  go_enter Tryd.func17, Tryd.ntmps17
  go_wp2
  all_goals
    go_ret
    refine ⟨ret_bool ?_, rfl⟩
    rw [← HB.out]
    unfold knB KL
    simp_all
theorem tl_iff (a b : ByteArray) : a.toList = b.toList ↔ a = b := by
  rw [Go.ByteArray.toList_eq, Go.ByteArray.toList_eq]; exact ⟨ext a b, fun h => by rw [h]⟩
theorem neq_pr (a b : Rw) (w : World) : (binOp .neq 46 (.agg #[.string a.1, .string a.2]) (.agg #[.string b.1, .string b.2])).run Tryd.prog w = .ok (.bool (!decide (a = b))) w := by
  obtain ⟨a1, a2⟩ := a
  obtain ⟨b1, b2⟩ := b
  show (binOp .neq 46 (.agg #[.string a1, .string a2]) (.agg #[.string b1, .string b2])).run Tryd.prog w = .ok (.bool (!decide ((a1, a2) = (b1, b2)))) w
  go_simp
  by_cases h1 : a1 = b1 <;> by_cases h2 : a2 = b2 <;> simp [h1, h2, tl_iff]
theorem eqgn_pr (x y : Operand) (a b : Rw) (w : World) : (eqGuard .neq 46 x y (.agg #[.string a.1, .string a.2]) (.agg #[.string b.1, .string b.2])).run Tryd.prog w = .ok () w :=
  run_eqGuard_agg _ _ _ _ _ _ _ (by kernel_rfl)
theorem take_eq_pr {α : Type} (l m : List α) (k : Nat) (h : k < l.length) (g : k < m.length) (e : l.take k = m.take k) (e2 : l[k] = m[k]) : l.take (k + 1) = m.take (k + 1) := by
  rw [List.take_succ_eq_append_getElem h, List.take_succ_eq_append_getElem g, e, e2]
attribute [local go_sem] eqgn_pr
attribute [local go_sem ↓] neq_pr
set_option maxRecDepth 100000 in
set_option maxHeartbeats 1000000 in
theorem pairs_any (v u : Value) (l k : List Rw) (w : World) (h : RwAt w v l) (g : RwAt w u k) (hl : l.length ≤ 1000) (hk : k.length ≤ 1000) :
    Calls Tryd.prog 14 #[v, u] w fun e w' => e = .returned (.bool (decide (l = k))) ∧ ∃ n, w' = w.drewN n := by
  obtain ⟨a, c, rfl⟩ := rwat_len h
  obtain ⟨b, d, rfl⟩ := rwat_len g
  by_cases hlen : l.length = k.length
  · have e1 : ((l.length : Int) != (k.length : Int)) = false := by simp [hlen]
    by_cases hp : 0 < l.length
    · obtain ⟨b1, o1, c1, hv1, hc1, hm1, _, hcell1⟩ := rwat_some h hp
      obtain ⟨b2, o2, c2, hv2, hc2, hm2, _, hcell2⟩ := rwat_some g (by omega)
      injection hv1 with hv1 _ hv1c
      injection hv2 with hv2 _ hv2c
      subst hv1 hv2 hv1c hv2c
      unfold maxLen at hm1 hm2
      clear h g hp
      obtain ⟨r, hr⟩ : ∃ r, decide (l = k) = r := ⟨_, rfl⟩
      rw [hr]
      have HRR := hide hr.symm
      clear hr
      have HL := hide hlen
      have hlen' : l.length ≤ k.length := by omega
      clear hlen
      go_enter Tryd.func14, Tryd.ntmps14
      go_wp2
      go_loopw [5] (fun i wr => ∃ j n : Nat, j ≤ l.length ∧ i = .int .i64 j ∧ Hid (l.take j = k.take j) ∧ w.drewN n = wr)
        (fun i _ => l.length - (intOf i).toNat)
      case atStart => exact ⟨0, 0, Nat.zero_le _, rfl, hide rfl, rfl⟩
      case round =>
        obtain ⟨j, n, hj, rfl, HT, rfl⟩ := hrel
        by_cases hlt : j < l.length
        · have x1 := hcell1 j hlt
          have x2 := hcell2 j (by omega)
          obtain ⟨x11, x12⟩ := x1
          obtain ⟨x21, x22⟩ := x2
          by_cases he : l[j] = k[j]
          · have hd : (!decide (l[j] = k[j])) = false := by simp [he]
            have HT2 := hide (take_eq_pr l k j hlt (by omega) HT.out he)
            clear he HT
            go_wp2
            go_quiet (fail)
            go_wp2
            refine ⟨?_, by first | (simp [intOf]; done) | (simp [intOf]; omega)⟩
            first
              | exact ⟨j + 1, _, by omega, by go_num, HT2, by first | rfl | trivial⟩
              | ((repeat apply Exists.intro); exact ⟨⟨j + 1, _, by omega, by go_num, HT2, by first | rfl | trivial⟩, rfl⟩)
          · have hd : (!decide (l[j] = k[j])) = true := by simp [he]
            have hne : decide (l = k) = false := by
              simp only [decide_eq_false_iff_not]
              intro h; subst h; exact he rfl
            have HNE := hide (HRR.out.trans hne)
            clear he HT hne
            go_wp2
            go_quiet (fail)
            go_wp2
            go_ret
            exact ⟨ret_bool HNE.out.symm, _, by rw [World.drewN_drewN]⟩
        · obtain rfl : j = l.length := by omega
          have he : l = k := by
            have h1 := HT.out
            rw [List.take_of_length_le (by omega), List.take_of_length_le (by have := HL.out; omega)] at h1
            exact h1
          have hne : decide (l = k) = true := by simp [he]
          have HNE := hide (HRR.out.trans hne)
          clear HT he hne hcell1 hcell2
          go_wp2
          go_ret
          exact ⟨ret_bool HNE.out.symm, n, rfl⟩
    · have h1 : l = [] := List.eq_nil_of_length_eq_zero (by omega)
      have h2 : k = [] := List.eq_nil_of_length_eq_zero (by omega)
      subst h1 h2
      clear h g hl hk hlen hp e1
      go_enter Tryd.func14, Tryd.ntmps14
      go_wp2
      refine wp_loop_rounds 2 ?_
      rw [rounds_succ]; go_wp2
      go_ret
      exact ⟨rfl, 0, rfl⟩
  · have e1 : ((l.length : Int) != (k.length : Int)) = true := by simp; omega
    have e2 : decide (l = k) = false := by simp; intro h; rw [h] at hlen; exact hlen rfl
    rw [e2]
    clear e2 hlen h g
    go_enter Tryd.func14, Tryd.ntmps14
    go_wp2
    go_ret
    exact ⟨rfl, 0, rfl⟩
end Go.Proofs.YtmjadcjpgcbalaaDoor
