/- Contract: what a format makes, by the reference (gimletref18.Apply). Condition: texts that are not too long. -/
import Derived.Test.YtbphckblbbbakaaDoorRfM
import Derived.Test.YtbphckblbbbakaaDoorFmK
import Derived.Test.YtbphckblbbbakaaDoorTrn
namespace Go.Proofs.YtbphckblbbbakaaDoor
open Go.ChangeShapes Go.WideShapes Go.ChangeAt Go.RowKit
attribute [local go_sem ↓] Go.wp_at_zero Go.wp_at_succ
set_option maxRecDepth 100000
set_option linter.unusedVariables false
theorem mk_cat (l : List UInt8) (s : ByteArray) : (⟨l.toArray⟩ : ByteArray) ++ s = ⟨(l ++ s.data.toList).toArray⟩ := by
  apply ByteArray.ext; apply Array.ext'; rw [ByteArray.toList_data_append]
theorem may_k {d : Fm} (h : mayF d = true) : d.k = 0 ∨ d.k = 1 ∨ d.k = 2 ∨ d.k = 3 ∨ d.k = 4 ∨ d.k = 5 := by
  unfold mayF at h
  split at h
  · cases h
  repeat (split at h; · omega)
  cases h
theorem emp_e (s : ByteArray) (h : s.toList.isEmpty = true) : s = ⟨#[]⟩ := by
  rw [Go.ByteArray.toList_eq] at h
  cases s with
  | mk d => cases d with
    | mk l => cases l with
      | nil => rfl
      | cons => cases h
theorem may_in' {l : List Fm} (h : mayL l = true) (k : Nat) (hk : k < l.length) : mayF l[k] = true := by
  have := List.all_eq_true.1 h k (List.mem_range.2 hk)
  unfold okF at this
  rw [getElem!_pos l k hk, Bool.and_eq_true] at this
  exact this.1
set_option maxHeartbeats 16000000 in
theorem rapplyL_any (v u : Value) (l : List Fm) (ps : List ByteArray) (w : World) (h : FmAt w v l) (hp : SrAt w u ps) (hl : l.length ≤ 1000) (hpl : ps.length ≤ 1000) (hps : ∀ n, (ptF ps n).size ≤ 1000) (hsz : ∀ d ∈ l, (mkF ps d).size ≤ 1000000) :
    Calls Tryd.prog 14 #[v, u] w fun e w' => e = .returned (.string ⟨(if mayL l = true then mkL ps l else []).toArray⟩) ∧ Below w.heap.size w w' := by
  obtain ⟨vA, vc, rfl⟩ := fmat_len h
  obtain ⟨uA, uc, rfl, hu1, hu2, hu3⟩ := hp
  have H := hide h
  have HP := hide hu3
  have HM := hide (rmayL_any _ l w h hl)
  clear h hu3
  rcases hm : mayL l with _ | _
  · rw [hm] at HM
    rw [if_neg (by simp)]
    go_enter Tryd.func14, Tryd.ntmps14
    go_wp2_with fail
    refine HM.out.mono ?_
    rintro e w1 ⟨rfl, hb1⟩
    go_wp2
    go_ret
    exact ⟨rfl, hb1⟩
  rw [hm] at HM
  rw [if_pos rfl]
  have HN := hide (fun k hk => may_n hm k hk)
  have HK := hide (fun k (hk : k < l.length) => may_k (may_in' hm k hk))
  have HSZ := hide hsz
  have HPS := hide hps
  clear hm hsz hps
  go_enter Tryd.func14, Tryd.ntmps14
  go_wp2_with fail
  refine HM.out.mono ?_
  rintro e w1 ⟨rfl, hb1⟩
  have HB1 := hide hb1
  clear hb1 HM
  go_wp2
  go_loopw [5, 6] (fun s i wr => ∃ (k : Nat) (out : List UInt8) (S : ByteArray), i = .int .i64 k ∧ s = .string S ∧ k ≤ l.length ∧ out.length ≤ 1000000 * k ∧ Hid (mkL ps (l.take k) = out) ∧ Hid (S = ⟨out.toArray⟩) ∧ S.size = out.length ∧ Hid (Below w.heap.size w wr)) (fun _ i _ => l.length - (intOf i).toNat)
  case atStart => exact ⟨0, [], ⟨#[]⟩, rfl, rfl, Nat.zero_le _, Nat.le_refl _, hide rfl, hide rfl, rfl, HB1⟩
  case round =>
    obtain ⟨k, out, S, rfl, rfl, hk, ho, HJ, HS, hsz, HBL⟩ := hrel
    by_cases hlt : k < l.length
    · obtain ⟨b1, o1, c1, hv1, hc1, hm1, hlb1, hcell⟩ := fmat_some (fmat_below H.out HBL.out) (by omega)
      injection hv1 with hv1 _ hv1c
      subst hv1 hv1c
      unfold maxLen at hm1
      obtain ⟨x0, x1, x2, x3, x4⟩ := hcell k hlt
      have hn0 := HN.out k hlt
      have hkk := HK.out k hlt
      have hsn := mkL_snoc ps l k hlt
      have hs1 := HSZ.out l[k] (List.getElem_mem hlt)
      have hps1 := HPS.out l[k].n
      clear hcell
      obtain ⟨d, hd⟩ : ∃ d, l[k] = d := ⟨_, rfl⟩
      rw [hd] at x0 x1 x2 x3 x4 hn0 hsn hs1 hps1 hkk
      rw [HJ.out] at hsn
      obtain ⟨dk, dn, dc, dt, de⟩ := d
      dsimp only at x0 x1 x2 x3 x4 hn0 hps1 hkk
      obtain ⟨m, rfl⟩ : ∃ m : Nat, dn = m := ⟨dn.toNat, by omega⟩
      obtain ⟨P, hP⟩ : ∃ P, ptF ps (m : Int) = P := ⟨_, rfl⟩
      obtain ⟨q, hq⟩ : ∃ q, mkF ps ⟨dk, m, dc, dt, de⟩ = q := ⟨_, rfl⟩
      have hq2 : apF1 ⟨dk, m, dc, dt, de⟩ P = q := by rw [← hq, ← hP]; rfl
      rw [hq] at hsn hs1
      rw [hP] at hps1
      unfold apF1 at hq2
      dsimp only at hq2
      have HTR := hide (fun W => rturn_any P (trnF P dc) dc (turnE dc) W (by omega) rfl rfl)
      have gl : decide ((k : Int) < (l.length : Int)) = true := decide_eq_true (by omega)
      have gl' : decide (k < l.length) = true := decide_eq_true hlt
      have e5 : IntKind.i64.wrap ((k : Int) + 1) = (k : Int) + 1 := by rw [IntKind.wrap_i64]; omega
      have hba := bl_alloc (bl_refl wr) (.cells #[.int .i64 dk, .int .i64 m, .int .i64 dc, .string dt, .string de] 41)
      have HBA := hide (bl_trans HBL.out hba)
      have f0 : (wr.alloc (.cells #[.int .i64 dk, .int .i64 m, .int .i64 dc, .string dt, .string de] 41)).cell? ⟨wr.heap.size, 0, none⟩ = some (.int .i64 dk) := cells_lit wr _ _ 0 _ rfl
      have f1 : (wr.alloc (.cells #[.int .i64 dk, .int .i64 m, .int .i64 dc, .string dt, .string de] 41)).cell? ⟨wr.heap.size, 1, none⟩ = some (.int .i64 m) := cells_lit wr _ _ 1 _ rfl
      have f2 : (wr.alloc (.cells #[.int .i64 dk, .int .i64 m, .int .i64 dc, .string dt, .string de] 41)).cell? ⟨wr.heap.size, 2, none⟩ = some (.int .i64 dc) := cells_lit wr _ _ 2 _ rfl
      have f3 : (wr.alloc (.cells #[.int .i64 dk, .int .i64 m, .int .i64 dc, .string dt, .string de] 41)).cell? ⟨wr.heap.size, 3, none⟩ = some (.string dt) := cells_lit wr _ _ 3 _ rfl
      have f4 : (wr.alloc (.cells #[.int .i64 dk, .int .i64 m, .int .i64 dc, .string dt, .string de] 41)).cell? ⟨wr.heap.size, 4, none⟩ = some (.string de) := cells_lit wr _ _ 4 _ rfl
      have hcat : S ++ q = ⟨(out ++ q.data.toList).toArray⟩ := by rw [HS.out, mk_cat]
      have hcz : (S ++ q).size = (out ++ q.data.toList).length := by rw [ByteArray.size_append, hsz, List.length_append, Array.length_toList]; rfl
      have hol : (out ++ q.data.toList).length ≤ 1000000 * (k + 1) := by rw [← hcz, ByteArray.size_append, hsz]; omega
      have NEXT : ∀ W, Below w.heap.size w W → ∃ (k2 : Nat) (out2 : List UInt8) (S2 : ByteArray), Value.int .i64 ((k : Int) + 1) = .int .i64 k2 ∧ Value.string (S ++ q) = .string S2 ∧ k2 ≤ l.length ∧ out2.length ≤ 1000000 * k2 ∧ Hid (mkL ps (l.take k2) = out2) ∧ Hid (S2 = ⟨out2.toArray⟩) ∧ S2.size = out2.length ∧ Hid (Below w.heap.size w W) := fun W hb =>
        ⟨k + 1, out ++ q.data.toList, S ++ q, by go_num, rfl, by omega, hol, hide hsn, hide hcat, hcz, hide hb⟩
      have HNEXT := hide NEXT
      have HQ := hide hq2
      have hSz : S.size ≤ 1000000000 := by rw [hsz]; exact Nat.le_trans ho (by omega)
      have HPT := hide (show (m < ps.length ∧ ∃ b o, uA = some ⟨b, o, none⟩ ∧ w.cell? ⟨b, o + m, none⟩ = some (.string P)) ∨ (¬ m < ps.length ∧ P = ⟨#[]⟩) by
        by_cases hm : m < ps.length
        · left
          obtain ⟨b, o, ha, hcell⟩ := HP.out m hm
          refine ⟨hm, b, o, ha, ?_⟩
          rw [hcell, ← hP]; unfold ptF; rw [if_pos (by omega)]; simp [hm]
        · right
          refine ⟨hm, ?_⟩
          rw [← hP]; unfold ptF; rw [if_neg (by omega)])
      clear hd hsn hq hq2 hP hcat hcz hol NEXT hba HS HJ
      rcases HPT.out with ⟨hm, pb, po, rfl, hpc⟩ | ⟨hm, hP0⟩
      · have gm : decide ((m : Int) < (ps.length : Int)) = true := decide_eq_true (by omega)
        have gm' : decide (m < ps.length) = true := decide_eq_true hm
        have pc := cell_later HBA.out hpc
        have i1 : (0 : Int) ≤ (m : Int) := by omega
        have i2 : (m : Int) < (ps.length : Int) := by omega
        clear hpc HPT hm
        rcases hkk with h | h | h | h | h | h
        · have hq := HQ.out
          rw [if_pos h] at hq
          subst hq
          have k0 : (dk == 0) = true := beq_iff_eq.2 h
          clear h HQ HTR
          go_wp2
          refine ⟨?_, by first | (simp [intOf]; done) | (simp [intOf]; omega)⟩
          first
            | exact HNEXT.out _ HBA.out
            | ((repeat apply Exists.intro); exact ⟨HNEXT.out _ HBA.out, rfl⟩)
        · have hq := HQ.out
          rw [if_neg (by omega), if_neg (by omega), if_neg (by omega), if_neg (by omega)] at hq
          subst hq
          have k0 : (dk == 0) = false := beq_eq_false_iff_ne.2 (by omega)
          have k1 : (dk == 1) = true := beq_iff_eq.2 h
          clear h HQ HTR
          go_wp2
          refine ⟨?_, by first | (simp [intOf]; done) | (simp [intOf]; omega)⟩
          first
            | exact HNEXT.out _ HBA.out
            | ((repeat apply Exists.intro); exact ⟨HNEXT.out _ HBA.out, rfl⟩)
        · have hq := HQ.out
          rw [if_neg (by omega), if_pos h] at hq
          rw [hq] at HTR
          have k0 : (dk == 0) = false := beq_eq_false_iff_ne.2 (by omega)
          have k1 : (dk == 1) = false := beq_eq_false_iff_ne.2 (by omega)
          have k2 : (dk == 2) = true := beq_iff_eq.2 h
          clear h HQ hq
          go_wp2_with fail
          refine (HTR.out _).mono ?_
          rintro e w2 ⟨rfl, hb2⟩
          have HB2 := hide (bl_trans HBA.out hb2)
          clear hb2
          go_wp2
          refine ⟨?_, by first | (simp [intOf]; done) | (simp [intOf]; omega)⟩
          first
            | exact HNEXT.out _ HB2.out
            | ((repeat apply Exists.intro); exact ⟨HNEXT.out _ HB2.out, rfl⟩)
        · have k0 : (dk == 0) = false := beq_eq_false_iff_ne.2 (by omega)
          have k1 : (dk == 1) = false := beq_eq_false_iff_ne.2 (by omega)
          have k2 : (dk == 2) = false := beq_eq_false_iff_ne.2 (by omega)
          have k4 : (dk == 4) = false := beq_eq_false_iff_ne.2 (by omega)
          have hq := HQ.out
          rw [if_neg (by omega), if_neg (by omega), if_pos (.inl h)] at hq
          rcases hz : P.toList.isEmpty with _ | _
          · rw [hz, if_neg (by simp)] at hq
            subst hq
            clear h HQ HTR
            go_wp2
            refine ⟨?_, by first | (simp [intOf]; done) | (simp [intOf]; omega)⟩
            first
              | exact HNEXT.out _ HBA.out
              | ((repeat apply Exists.intro); exact ⟨HNEXT.out _ HBA.out, rfl⟩)
          · rw [hz, if_pos rfl] at hq
            subst hq
            clear h HQ HTR
            go_wp2
            refine ⟨?_, by first | (simp [intOf]; done) | (simp [intOf]; omega)⟩
            first
              | exact HNEXT.out _ HBA.out
              | ((repeat apply Exists.intro); exact ⟨HNEXT.out _ HBA.out, rfl⟩)
        · have k0 : (dk == 0) = false := beq_eq_false_iff_ne.2 (by omega)
          have k1 : (dk == 1) = false := beq_eq_false_iff_ne.2 (by omega)
          have k2 : (dk == 2) = false := beq_eq_false_iff_ne.2 (by omega)
          have k4 : (dk == 4) = true := beq_iff_eq.2 h
          have hq := HQ.out
          rw [if_neg (by omega), if_neg (by omega), if_neg (by omega), if_pos h] at hq
          rcases hz : P.toList.isEmpty with _ | _
          · rw [hz, if_neg (by simp)] at hq
            subst hq
            clear h HQ HTR
            go_wp2
            refine ⟨?_, by first | (simp [intOf]; done) | (simp [intOf]; omega)⟩
            first
              | exact HNEXT.out _ HBA.out
              | ((repeat apply Exists.intro); exact ⟨HNEXT.out _ HBA.out, rfl⟩)
          · rw [hz, if_pos rfl] at hq
            subst hq
            clear h HQ HTR
            go_wp2
            refine ⟨?_, by first | (simp [intOf]; done) | (simp [intOf]; omega)⟩
            first
              | exact HNEXT.out _ HBA.out
              | ((repeat apply Exists.intro); exact ⟨HNEXT.out _ HBA.out, rfl⟩)
        · have k0 : (dk == 0) = false := beq_eq_false_iff_ne.2 (by omega)
          have k1 : (dk == 1) = false := beq_eq_false_iff_ne.2 (by omega)
          have k2 : (dk == 2) = false := beq_eq_false_iff_ne.2 (by omega)
          have k4 : (dk == 4) = false := beq_eq_false_iff_ne.2 (by omega)
          have hq := HQ.out
          rw [if_neg (by omega), if_neg (by omega), if_pos (.inr h)] at hq
          rcases hz : P.toList.isEmpty with _ | _
          · rw [hz, if_neg (by simp)] at hq
            subst hq
            clear h HQ HTR
            go_wp2
            refine ⟨?_, by first | (simp [intOf]; done) | (simp [intOf]; omega)⟩
            first
              | exact HNEXT.out _ HBA.out
              | ((repeat apply Exists.intro); exact ⟨HNEXT.out _ HBA.out, rfl⟩)
          · rw [hz, if_pos rfl] at hq
            subst hq
            clear h HQ HTR
            go_wp2
            refine ⟨?_, by first | (simp [intOf]; done) | (simp [intOf]; omega)⟩
            first
              | exact HNEXT.out _ HBA.out
              | ((repeat apply Exists.intro); exact ⟨HNEXT.out _ HBA.out, rfl⟩)
      · have gm : decide ((m : Int) < (ps.length : Int)) = false := decide_eq_false (by omega)
        have gm' : decide (m < ps.length) = false := decide_eq_false hm
        subst hP0
        have hE0 : (⟨#[]⟩ : ByteArray).toList.isEmpty = true := by rw [Go.ByteArray.toList_eq]; rfl
        clear HPT hm
        rcases hkk with h | h | h | h | h | h
        · have hq := HQ.out
          rw [if_pos h] at hq
          subst hq
          have k0 : (dk == 0) = true := beq_iff_eq.2 h
          clear h HQ HTR
          go_wp2
          refine ⟨?_, by first | (simp [intOf]; done) | (simp [intOf]; omega)⟩
          first
            | exact HNEXT.out _ HBA.out
            | ((repeat apply Exists.intro); exact ⟨HNEXT.out _ HBA.out, rfl⟩)
        · have hq := HQ.out
          rw [if_neg (by omega), if_neg (by omega), if_neg (by omega), if_neg (by omega)] at hq
          subst hq
          have k0 : (dk == 0) = false := beq_eq_false_iff_ne.2 (by omega)
          have k1 : (dk == 1) = true := beq_iff_eq.2 h
          clear h HQ HTR
          go_wp2
          refine ⟨?_, by first | (simp [intOf]; done) | (simp [intOf]; omega)⟩
          first
            | exact HNEXT.out _ HBA.out
            | ((repeat apply Exists.intro); exact ⟨HNEXT.out _ HBA.out, rfl⟩)
        · have hq := HQ.out
          rw [if_neg (by omega), if_pos h] at hq
          rw [hq] at HTR
          have k0 : (dk == 0) = false := beq_eq_false_iff_ne.2 (by omega)
          have k1 : (dk == 1) = false := beq_eq_false_iff_ne.2 (by omega)
          have k2 : (dk == 2) = true := beq_iff_eq.2 h
          clear h HQ hq
          go_wp2_with fail
          refine (HTR.out _).mono ?_
          rintro e w2 ⟨rfl, hb2⟩
          have HB2 := hide (bl_trans HBA.out hb2)
          clear hb2
          go_wp2
          refine ⟨?_, by first | (simp [intOf]; done) | (simp [intOf]; omega)⟩
          first
            | exact HNEXT.out _ HB2.out
            | ((repeat apply Exists.intro); exact ⟨HNEXT.out _ HB2.out, rfl⟩)
        · have k0 : (dk == 0) = false := beq_eq_false_iff_ne.2 (by omega)
          have k1 : (dk == 1) = false := beq_eq_false_iff_ne.2 (by omega)
          have k2 : (dk == 2) = false := beq_eq_false_iff_ne.2 (by omega)
          have k4 : (dk == 4) = false := beq_eq_false_iff_ne.2 (by omega)
          have hq := HQ.out
          rw [if_neg (by omega), if_neg (by omega), if_pos (.inl h), hE0, if_pos rfl] at hq
          subst hq
          clear h HQ HTR
          go_wp2
          refine ⟨?_, by first | (simp [intOf]; done) | (simp [intOf]; omega)⟩
          first
            | exact HNEXT.out _ HBA.out
            | ((repeat apply Exists.intro); exact ⟨HNEXT.out _ HBA.out, rfl⟩)
        · have k0 : (dk == 0) = false := beq_eq_false_iff_ne.2 (by omega)
          have k1 : (dk == 1) = false := beq_eq_false_iff_ne.2 (by omega)
          have k2 : (dk == 2) = false := beq_eq_false_iff_ne.2 (by omega)
          have k4 : (dk == 4) = true := beq_iff_eq.2 h
          have hq := HQ.out
          rw [if_neg (by omega), if_neg (by omega), if_neg (by omega), if_pos h, hE0, if_pos rfl] at hq
          subst hq
          clear h HQ HTR
          go_wp2
          refine ⟨?_, by first | (simp [intOf]; done) | (simp [intOf]; omega)⟩
          first
            | exact HNEXT.out _ HBA.out
            | ((repeat apply Exists.intro); exact ⟨HNEXT.out _ HBA.out, rfl⟩)
        · have k0 : (dk == 0) = false := beq_eq_false_iff_ne.2 (by omega)
          have k1 : (dk == 1) = false := beq_eq_false_iff_ne.2 (by omega)
          have k2 : (dk == 2) = false := beq_eq_false_iff_ne.2 (by omega)
          have k4 : (dk == 4) = false := beq_eq_false_iff_ne.2 (by omega)
          have hq := HQ.out
          rw [if_neg (by omega), if_neg (by omega), if_pos (.inr h), hE0, if_pos rfl] at hq
          subst hq
          clear h HQ HTR
          go_wp2
          refine ⟨?_, by first | (simp [intOf]; done) | (simp [intOf]; omega)⟩
          first
            | exact HNEXT.out _ HBA.out
            | ((repeat apply Exists.intro); exact ⟨HNEXT.out _ HBA.out, rfl⟩)
    · obtain rfl : k = l.length := by omega
      have hj := HJ.out
      rw [List.take_length] at hj
      have HE := hide (show S = ⟨(mkL ps l).toArray⟩ by rw [hj]; exact HS.out)
      have gl : decide ((l.length : Int) < (l.length : Int)) = false := by simp
      have gl' : decide (l.length < l.length) = false := by simp
      clear hj HJ hlt
      go_wp2
      go_ret
      exact ⟨by rw [HE.out]; rfl, HBL.out⟩
end Go.Proofs.YtbphckblbbbakaaDoor
