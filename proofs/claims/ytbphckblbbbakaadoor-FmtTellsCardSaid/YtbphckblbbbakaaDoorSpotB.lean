/- Contracts: a number of 1 to 4 digits is read (spot.Spot.Number). Condition: a text that is not too long. -/
import Derived.Test.YtbphckblbbbakaaDoorSpot
import Derived.Test.YtbphckblbbbakaaDoorFmR
namespace Go.Proofs.YtbphckblbbbakaaDoor
open Go.ChangeShapes Go.WideShapes Go.ChangeAt Go.RowKit
attribute [local go_sem ↓] Go.wp_at_zero Go.wp_at_succ
set_option maxRecDepth 100000
set_option linter.unusedVariables false
theorem digs_yes (l : List UInt8) (j : Nat) (h : j < (digs l).length) : ∃ q : j < l.length, isDg l[j] = true ∧ j < 5 ∧ valF ((digs l).take (j + 1)) = valF ((digs l).take j) * 10 + (l[j].toNat - 48) := by
  have hp : digs l <+: l := (List.takeWhile_prefix _).trans (List.take_prefix _ _)
  have h5 : (digs l).length ≤ 5 := Nat.le_trans (List.takeWhile_prefix _).length_le (by rw [List.length_take]; omega)
  have hl := hp.length_le
  have hq : j < l.length := by omega
  have he : (digs l)[j] = l[j] := List.IsPrefix.getElem hp h
  refine ⟨hq, ?_, by omega, ?_⟩
  · rw [← he]
    have := List.all_takeWhile (p := isDg) (l := l.take 5)
    exact List.all_eq_true.1 this _ (List.getElem_mem h)
  · rw [List.take_succ_eq_append_getElem h, valF, List.foldl_append, ← he]; rfl
theorem tw_no (p : UInt8 → Bool) (l : List UInt8) (h : (l.takeWhile p).length < l.length) : p l[(l.takeWhile p).length] = false := by
  induction l with
  | nil => simp at h
  | cons a l ih =>
    by_cases ha : p a = true
    · simp only [List.takeWhile_cons, ha, if_true, List.length_cons] at h ⊢
      simpa using ih (by omega)
    · simp [ha]
theorem digs_no (l : List UInt8) : (digs l).length = 5 ∨ (digs l).length = l.length ∨ ∃ q : (digs l).length < l.length, isDg l[(digs l).length] = false ∧ (digs l).length < 5 := by
  have h5 : (digs l).length ≤ (l.take 5).length := (List.takeWhile_prefix _).length_le
  rw [List.length_take] at h5
  by_cases h : (digs l).length < (l.take 5).length
  · have h2 : isDg ((l.take 5)[(digs l).length]'h) = false := tw_no isDg (l.take 5) h
    rw [List.length_take] at h
    rw [List.getElem_take] at h2
    exact .inr (.inr ⟨by omega, h2, by omega⟩)
  · rw [List.length_take] at h
    omega
theorem digs_le (l : List UInt8) : (digs l).length ≤ 5 ∧ (digs l).length ≤ l.length :=
  ⟨Nat.le_trans (List.takeWhile_prefix _).length_le (by rw [List.length_take]; omega), Nat.le_trans (List.takeWhile_prefix _).length_le (by rw [List.length_take]; omega)⟩
theorem val_acc (ds : List UInt8) (h : ∀ c ∈ ds, isDg c = true) (a : Nat) : ds.foldl (fun n c => n * 10 + (c.toNat - 48)) a < (a + 1) * 10 ^ ds.length := by
  induction ds generalizing a with
  | nil => simp
  | cons c ds ih =>
    have hc : c.toNat - 48 ≤ 9 := by have := h c (by simp); unfold isDg at this; simp at this; omega
    have := ih (fun c hc => h c (by simp [hc])) (a * 10 + (c.toNat - 48))
    simp only [List.foldl_cons, List.length_cons]
    refine Nat.lt_of_lt_of_le this ?_
    rw [Nat.pow_succ, Nat.mul_comm (10 ^ _) 10, ← Nat.mul_assoc]
    exact Nat.mul_le_mul_right _ (by omega)
theorem val_le (l : List UInt8) (j : Nat) : valF ((digs l).take j) ≤ 100000 := by
  have h1 := val_acc ((digs l).take j) (fun c hc => List.all_eq_true.1 (List.all_takeWhile (p := isDg) (l := l.take 5)) c (List.mem_of_mem_take hc)) 0
  have h2 : ((digs l).take j).length ≤ 5 := by have := (digs_le l).1; rw [List.length_take]; omega
  have h3 : 10 ^ ((digs l).take j).length ≤ 10 ^ 5 := Nat.pow_le_pow_right (by decide) h2
  unfold valF
  omega
theorem dg_any (c : UInt8) (w : World) : Calls Tryd.prog 55 #[.int .u8 (c.toNat : Int)] w fun e w' => e = .returned (.bool (isDg c)) ∧ w = w' := by
  unfold isDg
  have e1 : decide ((48 : Int) ≤ (c.toNat : Int)) = decide (48 ≤ c.toNat) := by apply decide_eq_decide.2; omega
  have e2 : decide ((c.toNat : Int) ≤ 57) = decide (c.toNat ≤ 57) := by apply decide_eq_decide.2; omega
  rw [← e1, ← e2]
  generalize (c.toNat : Int) = n
  clear e1 e2
  rcases hb1 : decide (48 ≤ n) with _ | _ <;> rcases hb2 : decide (n ≤ 57) with _ | _
  all_goals
    go_enter Tryd.func55, Tryd.ntmps55
    go_wp2
    go_ret
    exact ⟨rfl, rfl⟩
def NumPost (w : World) (b o k size : Nat) (z : Option (Nat × List UInt8)) (e : Ending) (w' : World) : Prop :=
  match z with
  | none => e = .returned (.tuple #[.int .i64 0, .bool false]) ∧ Mvd w w' b o k
  | some (n, r) => e = .returned (.tuple #[.int .i64 n, .bool true]) ∧ Mvd w w' b o (size - r.length)
set_option maxHeartbeats 4000000 in
theorem spot_number {w : World} {b o : Nat} {s : ByteArray} {k : Nat} (h : SpAtC w b o s k) (hf : w.frozen? ⟨b, o + 1, none⟩ = false) (hk : k ≤ s.size) (hs : s.size ≤ 1000000) (z : Option (Nat × List UInt8)) (hz : numF (s.data.toList.drop k) = z) :
    Calls Tryd.prog 44 #[.pointer (some ⟨b, o, none⟩)] w (NumPost w b o k s.size z) := by
  have HS := hide h
  have HF := hide hf
  have hlen : s.data.toList.length = s.size := Array.length_toList
  have HY := hide (fun j hj => digs_yes (s.data.toList.drop k) j hj)
  have HN := hide (digs_no (s.data.toList.drop k))
  have HV := hide (fun j => val_le (s.data.toList.drop k) j)
  have hd5 := digs_le (s.data.toList.drop k)
  unfold numF at hz
  obtain ⟨D, hD⟩ : ∃ D, digs (s.data.toList.drop k) = D := ⟨_, rfl⟩
  rw [hD] at hz HY HN HV hd5
  clear hD
  obtain ⟨d, hd⟩ : ∃ d, D.length = d := ⟨_, rfl⟩
  rw [hd] at hz HY HN hd5
  have hdl := hd5.2
  rw [List.length_drop, hlen] at hdl
  have HZ := hide hz
  have HL := hide hlen
  have HD := hide hd
  obtain ⟨h1, h2⟩ := h
  clear hz hlen hf hd
  go_enter Tryd.func44, Tryd.ntmps44
  go_wp2
  go_quiet (fail)
  have hq := bl_drewN (bl_refl w) nq
  obtain ⟨w1, hw1⟩ : ∃ w1, w.drewN nq = w1 := ⟨_, rfl⟩
  rw [hw1] at hq ⊢
  clear hw1
  have HB := hide hq
  obtain ⟨c1, c2⟩ := spot_bl HS.out hq
  have hf1 := (hq.frozen (p := ⟨b, o + 1, none⟩) (World.block_lt_of_cell? _ _ h2)).trans HF.out
  clear hq h1 h2
  go_wp2
  go_loopw [4, 5] (fun n i wr => ∃ p : Nat, i = .int .i64 p ∧ k ≤ p ∧ p ≤ k + d ∧ n = .int .i64 ((valF (D.take (p - k)) : Nat) : Int) ∧ w1 = wr) (fun _ i _ => k + d + 1 - (intOf i).toNat)
  case atStart => exact ⟨k, rfl, Nat.le_refl _, by omega, by simp [valF], rfl⟩
  case round =>
    obtain ⟨p, rfl, hp0, hp1, rfl, rfl⟩ := hrel
    have q5 : IntKind.i64.wrap ((k : Int) + 5) = (k : Int) + 5 := by rw [IntKind.wrap_i64]; omega
    have hv5 := HV.out (p - k)
    by_cases hpd : p - k < d
    · obtain ⟨q, hdig, h5, hval⟩ := HY.out (p - k) hpd
      obtain ⟨c, hc⟩ : ∃ c, (s.data.toList.drop k)[p - k] = c := ⟨_, rfl⟩
      rw [hc] at hdig hval
      have hps : p < s.size := by omega
      have hsc : s[p] = c := by rw [← hc, List.getElem_drop]; simp [show k + (p - k) = p by omega]; rfl
      have HDG := hide (fun W => dg_any c W)
      rw [hdig] at HDG
      have hcd := hdig
      unfold isDg at hcd
      simp at hcd
      rw [show p - k + 1 = p + 1 - k by omega] at hval
      obtain ⟨v, hv⟩ : ∃ v, valF (D.take (p - k)) = v := ⟨_, rfl⟩
      rw [hv] at hval hv5 ⊢
      have HVAL := hide hval
      obtain ⟨cn, hcn⟩ : ∃ cn, c.toNat = cn := ⟨_, rfl⟩
      rw [hcn] at hcd HVAL HDG
      have gl1 : decide ((p : Int) < (s.size : Int)) = true := decide_eq_true (by omega)
      have gl1' : decide (p < s.size) = true := decide_eq_true (by omega)
      have gl2 : decide ((p : Int) < (k : Int) + 5) = true := decide_eq_true (by omega)
      have e1 : IntKind.i64.wrap ((v : Int) * 10) = (v : Int) * 10 := by rw [IntKind.wrap_i64]; omega
      have e2 : IntKind.u8.wrap ((cn : Int) - 48) = (cn : Int) - 48 := by rw [IntKind.wrap_u8]; omega
      have e3 : IntKind.i64.wrap ((cn : Int) - 48) = (cn : Int) - 48 := by rw [IntKind.wrap_i64]; omega
      have e4 : IntKind.i64.wrap ((v : Int) * 10 + ((cn : Int) - 48)) = (v : Int) * 10 + ((cn : Int) - 48) := by rw [IntKind.wrap_i64]; omega
      have e5 : IntKind.i64.wrap ((p : Int) + 1) = (p : Int) + 1 := by rw [IntKind.wrap_i64]; omega
      have e6 : ((v * 10 + (cn - 48) : Nat) : Int) = (v : Int) * 10 + ((cn : Int) - 48) := by omega
      have i1 : (0 : Int) ≤ (p : Int) := by omega
      have i2 : (p : Int) < (s.size : Int) := by omega
      have hsn : (s[p].toNat : Int) = cn := by rw [hsc, hcn]
      have HP1 := hide (show k ≤ p + 1 ∧ p + 1 ≤ k + d by omega)
      clear hval hv hc hsc hcn hdig hpd q
      go_wp2_with fail
      refine (HDG.out _).mono ?_
      rintro e w2 ⟨rfl, rfl⟩
      go_wp2
      refine ⟨?_, by first | (simp [intOf]; done) | (simp [intOf]; omega)⟩
      first
        | exact ⟨p + 1, by go_num, HP1.out.1, HP1.out.2, by rw [HVAL.out, e6], by first | rfl | trivial⟩
        | ((repeat apply Exists.intro); exact ⟨⟨p + 1, by go_num, HP1.out.1, HP1.out.2, by rw [HVAL.out, e6], by first | rfl | trivial⟩, rfl⟩)
    · have hpk : p = k + d := by omega
      have hz := HZ.out
      have hds : (s.data.toList.drop k).length = s.size - k := by rw [List.length_drop, HL.out]
      have hfull : D.take (p - k) = D := List.take_of_length_le (by rw [HD.out]; omega)
      rw [hfull] at hv5 ⊢
      clear hfull
      obtain ⟨v, hv⟩ : ∃ v, valF D = v := ⟨_, rfl⟩
      rw [hv] at hz hv5 ⊢
      have i1 : (0 : Int) ≤ (p : Int) := by omega
      obtain ⟨z1, hz1⟩ : ∃ z1, ((p : Int) == (k : Int)) = z1 := ⟨_, rfl⟩
      obtain ⟨z2, hz2⟩ : ∃ z2, ((p : Int) == (k : Int) + 5) = z2 := ⟨_, rfl⟩
      have hz1' : (p == k) = z1 := by rw [← hz1, Bool.eq_iff_iff, beq_iff_eq, beq_iff_eq]; omega
      have TAIL : (z1 = true ∧ z = none) ∨ (z1 = false ∧ z2 = true ∧ z = none) ∨ (z1 = false ∧ z2 = false ∧ z = some (v, s.data.toList.drop p)) := by
        by_cases hd0 : d = 0
        · rw [if_pos (.inl hd0)] at hz
          left; rw [← hz1]; exact ⟨by simp; omega, hz.symm⟩
        by_cases hd5 : d = 5
        · rw [if_pos (.inr hd5)] at hz
          right; left; rw [← hz1, ← hz2]; exact ⟨by simp; omega, by simp; omega, hz.symm⟩
        · rw [if_neg (by omega), List.drop_drop] at hz
          right; right
          refine ⟨?_, ?_, ?_⟩
          · rw [← hz1]; simp; omega
          · rw [← hz2]; simp; omega
          · rw [← hz, hpk]
      have HT := hide TAIL
      have HM := hide (mvd_bl HB.out HS.out.2)
      have hpz : p ≤ s.size := by omega
      have hrl : (s.data.toList.drop p).length = s.size - p := by rw [List.length_drop, HL.out]
      have HRL := hide hrl
      have hn := HN.out
      have HDS := hide hds
      have HE := hide (show (decide ((p : Int) < (s.size : Int)) = false) ∨ (p < s.size ∧ decide ((p : Int) < (k : Int) + 5) = false) ∨ ∃ q : p < s.size, isDg s[p] = false ∧ decide ((p : Int) < (k : Int) + 5) = true by
        rcases hn with h1 | h1 | ⟨q, h1, h2⟩
        · by_cases h3 : p < s.size
          · exact .inr (.inl ⟨h3, decide_eq_false (by omega)⟩)
          · exact .inl (decide_eq_false (by omega))
        · exact .inl (decide_eq_false (by omega))
        · refine .inr (.inr ⟨by omega, ?_, decide_eq_true (by omega)⟩)
          have hsc : s[p] = (s.data.toList.drop k)[d] := by rw [List.getElem_drop]; simp [← hpk]; rfl
          rw [hsc]; exact h1)
      have HP := hide (show s.size - (s.data.toList.drop p).length = p by omega)
      have gz : decide (p < s.size) = decide ((p : Int) < (s.size : Int)) := by apply decide_eq_decide.2; omega
      clear TAIL hz hv hds hrl hn hpd HN HY HZ HL HDS HD hpk
      rcases HE.out with g1 | ⟨g0, g2⟩ | ⟨q, gd, g2⟩
      · have g1' := gz.trans g1
        clear gz HE
        rcases HT.out with ⟨t1, t2⟩ | ⟨t1, t3, t2⟩ | ⟨t1, t3, t2⟩
        all_goals
          subst t1 t2
          try subst t3
          clear HT
          go_wp2
          go_ret2
          first
            | exact ⟨rfl, HM.out⟩
            | exact ⟨rfl, by rw [HP.out]; exact HM.out.set p⟩
      · have g1 : decide ((p : Int) < (s.size : Int)) = true := decide_eq_true (by omega)
        have g1' := gz.trans g1
        clear gz HE g0
        rcases HT.out with ⟨t1, t2⟩ | ⟨t1, t3, t2⟩ | ⟨t1, t3, t2⟩
        all_goals
          subst t1 t2
          try subst t3
          clear HT
          go_wp2
          go_ret2
          first
            | exact ⟨rfl, HM.out⟩
            | exact ⟨rfl, by rw [HP.out]; exact HM.out.set p⟩
      · have g1 : decide ((p : Int) < (s.size : Int)) = true := decide_eq_true (by omega)
        have g1' := gz.trans g1
        have i2 : (p : Int) < (s.size : Int) := by omega
        obtain ⟨c, hc⟩ : ∃ c, s[p] = c := ⟨_, rfl⟩
        rw [hc] at gd
        have HDG := hide (fun W => dg_any c W)
        rw [gd] at HDG
        obtain ⟨cn, hcn⟩ : ∃ cn, c.toNat = cn := ⟨_, rfl⟩
        have hsn : (s[p].toNat : Int) = cn := by rw [hc, hcn]
        rw [hcn] at HDG
        clear gz HE hc hcn gd
        rcases HT.out with ⟨t1, t2⟩ | ⟨t1, t3, t2⟩ | ⟨t1, t3, t2⟩
        all_goals
          subst t1 t2
          try subst t3
          clear HT
          go_wp2_with fail
          refine (HDG.out _).mono ?_
          rintro e w2 ⟨rfl, rfl⟩
          go_wp2
          go_ret2
          first
            | exact ⟨rfl, HM.out⟩
            | exact ⟨rfl, by rw [HP.out]; exact HM.out.set p⟩
end Go.Proofs.YtbphckblbbbakaaDoor
