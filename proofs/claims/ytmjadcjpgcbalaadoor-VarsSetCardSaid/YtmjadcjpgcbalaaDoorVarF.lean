/- Contracts: the reference's variable set, and what it knows. Condition: texts and lists that are not too long. -/
import Derived.Test.YtmjadcjpgcbalaaDoorVarE
namespace Go.Proofs.YtmjadcjpgcbalaaDoor
open Go.ChangeShapes Go.WideShapes Go.ChangeAt Go.RowKit
open SpanM SetM
attribute [local go_sem ↓] Go.wp_at_zero Go.wp_at_succ
set_option maxRecDepth 100000
set_option linter.unusedVariables false
set_option maxHeartbeats 8000000 in
theorem rset_any (nm v : ByteArray) (v0 : Value) (l : List Rw) (w : World) (h : RwAt w v0 l) (hl : l.length ≤ 100) (hn : nm.size ≤ 1000000) :
    Calls Tryd.prog 13 #[.string nm, .string v, v0] w (SetPost w (setE nm v l) (setR nm v l)) := by
  obtain ⟨i0, hi0, hz0', hz1, hz2⟩ := info_parts info_rw
  have HN := hide (fun b hb W => rname_any nm hn b hb W)
  obtain ⟨vA, vc, rfl, hsrc⟩ := rw_src h
  have HSRC := hide (src_below hsrc (bl_alloc (bl_refl w) (.cells #[] 46)))
  have hone := flatR_one l
  have hat : (w.alloc (.cells #[] 46)).ownsRow w.heap.size 46 2 (.slice (some ⟨w.heap.size, 0, none⟩) 0 0) 0 [] := own_at (heap_new rfl) (Nat.le_refl _)
  clear h hsrc
  rcases hnb : nameB nm with _ | _
  · have HK := hide (HN.out _ hnb)
    have e1 : setE nm v l = 2 := by unfold setE; rw [if_pos hnb]
    have e2 : setR nm v l = [] := by unfold setR; rw [if_neg (by rw [e1]; decide)]
    rw [e1, e2]
    clear e1 e2 hnb HN HSRC hat hone
    go_enter Tryd.func13, Tryd.ntmps13
    go_wp2_with fail
    refine (HK.out _).mono ?_
    rintro e w1 ⟨rfl, hw1⟩
    subst hw1
    go_wp2
    go_ret2
    exact set_nil (bl_refl _)
  have HK := hide (HN.out _ hnb)
  by_cases hv : 65536 < v.size
  · have e1 : setE nm v l = 4 := by unfold setE; rw [if_neg (by rw [hnb]; simp), if_pos hv]
    have e2 : setR nm v l = [] := by unfold setR; rw [if_neg (by rw [e1]; decide)]
    rw [e1, e2]
    have gv : decide ((65536 : Int) < (v.size : Int)) = true := decide_eq_true (by omega)
    have gv' : decide (65536 < v.size) = true := decide_eq_true hv
    clear e1 e2 hnb HN HSRC hat hone hv
    go_enter Tryd.func13, Tryd.ntmps13
    go_wp2_with fail
    refine (HK.out _).mono ?_
    rintro e w1 ⟨rfl, hw1⟩
    subst hw1
    go_wp2
    go_ret2
    exact set_nil (bl_refl _)
  have gv : decide ((65536 : Int) < (v.size : Int)) = false := decide_eq_false (by omega)
  have gv' : decide (65536 < v.size) = false := decide_eq_false hv
  have HNB := hide hnb
  have HVV := hide hv
  have HAT := hide hat
  clear hnb HN hv hat
  go_enter Tryd.func13, Tryd.ntmps13
  go_wp2_with fail
  refine (HK.out _).mono ?_
  rintro e w1 ⟨rfl, hw1⟩
  subst hw1
  go_wp2_with (at_builtin; (refine wpList_src _ rfl _ _ 22 rfl w.heap.size 46 i0 (.agg #[.string ⟨#[]⟩, .string ⟨#[]⟩]) 2 32 Tryd.underlying22 hi0 hz0' hz1 hz2 rfl (by decide) (.slice (some ⟨w.heap.size, 0, none⟩) 0 0) 0 [] rfl HAT.out vA l.length vc (flatR l) rfl HSRC.out hone (by omega) (by decide) (by simp) ?_); intro v8 w8 hv8 hg8; rw [Nat.zero_add, List.nil_append] at hv8; have B8 := hide (bl_grown (bl_alloc (bl_refl w) (.cells #[] 46)) hg8 (fun k hk => (World.ownsRow.lt HAT.out k hk).1)); obtain ⟨aV, cV, rfl⟩ := own_slice hv8; have HV8 := hide hv8; clear hv8 hg8)
  clear gv gv' HSRC HAT HK
  go_loopw [9] (fun i wr => ∃ k : Nat, i = .int .i64 k ∧ k ≤ l.length ∧ Hid (∀ i (hi : i < l.length), i < k → eqB l[i].1 nm = false) ∧ w8 = wr) (fun i _ => l.length - (intOf i).toNat)
  case atStart => exact ⟨0, rfl, Nat.zero_le _, hide (fun i _ h => by omega), rfl⟩
  case round =>
    obtain ⟨k, rfl, hk, HA, rfl⟩ := hrel
    by_cases hlt : k < l.length
    · have gl : decide (k < l.length) = true := decide_eq_true hlt
      rcases own_form HV8.out with ⟨_, g1, g2⟩ | ⟨g, c, hvv, g1, g2, g3, g4, g5⟩
      · omega
      injection hvv with hvv _ hvc
      subst hvv hvc
      unfold maxLen at g4
      have y0 : w8.cell? ⟨g, k * 2, none⟩ = some (.string l[k].1) := by rw [World.ownsRow.cellAt HV8.out (k * 2) (by omega)]; exact (flatR_at l k hlt).1
      have y1 : w8.cell? ⟨g, k * 2 + 1, none⟩ = some (.string l[k].2) := by rw [World.ownsRow.cellAt HV8.out (k * 2 + 1) (by omega)]; exact (flatR_at l k hlt).2
      have yf := World.ownsRow.frozenAt HV8.out (k * 2 + 1)
      clear g5
      rcases hr : eqB l[k].1 nm with _ | _
      · have hr2 : (l[k].1.toList == nm.toList) = false := hr
        have HA2 := hide (show ∀ i (hi : i < l.length), i < k + 1 → eqB l[i].1 nm = false from fun i hi h => by
          rcases Nat.eq_or_lt_of_le (Nat.le_of_lt_succ h) with h1 | h1
          · subst h1; exact hr
          · exact HA.out i hi h1)
        clear hr HA yf y1
        generalize l[k] = s at *
        go_wp2
        refine ⟨?_, by first | (simp [intOf]; done) | (simp [intOf]; omega)⟩
        first
          | exact ⟨k + 1, by go_num, by omega, HA2, by first | rfl | trivial⟩
          | ((repeat apply Exists.intro); exact ⟨⟨k + 1, by go_num, by omega, HA2, by first | rfl | trivial⟩, rfl⟩)
      · have hr2 : (l[k].1.toList == nm.toList) = true := hr
        obtain ⟨f1, f2⟩ := fst_at k hlt hr (fun i hi => HA.out i (by omega) hi) v
        have e1 : setE nm v l = 0 := by unfold setE; rw [if_neg (by rw [HNB.out]; simp), if_neg HVV.out, if_neg (fun h => by rw [f1] at h; simp at h)]
        have e2 : setR nm v l = l.set k (l[k].1, v) := by unfold setR; rw [if_pos e1, f2]
        have HE := hide (And.intro e1 e2)
        have ho4 := (World.ownsRow.stored HV8.out (k * 2 + 1) (.string v)).1
        rw [flatR_set1 l k hlt v] at ho4
        have HO4 := hide ho4
        have HB4 := hide (bl_set B8.out (p := ⟨g, k * 2 + 1, none⟩) g1 (.string v))
        clear e1 e2 f1 f2 hr HA ho4
        go_wp2
        go_ret2
        rw [HE.out.1, HE.out.2]
        refine ⟨_, rfl, HB4.out, ?_⟩
        rw [List.length_set]
        exact HO4.out
    · obtain rfl : k = l.length := by omega
      have gl : decide (l.length < l.length) = false := by simp
      obtain ⟨f1, f2⟩ := fst_no (fun i hi => HA.out i hi hi) v
      have hz := B8.out.size
      by_cases hfull : 64 ≤ l.length
      · have e1 : setE nm v l = 7 := by unfold setE; rw [if_neg (by rw [HNB.out]; simp), if_neg HVV.out, if_pos ⟨f1, hfull⟩]
        have e2 : setR nm v l = [] := by unfold setR; rw [if_neg (by rw [e1]; decide)]
        have HE := hide (And.intro e1 e2)
        have gf : decide ((64 : Int) ≤ (l.length : Int)) = true := decide_eq_true (by omega)
        have gf' : decide (64 ≤ l.length) = true := decide_eq_true hfull
        clear e1 e2 f1 f2 HNB HVV hfull HA hlt
        go_wp2
        go_ret2
        rw [HE.out.1, HE.out.2]
        exact set_nil B8.out
      · have e1 : setE nm v l = 0 := by unfold setE; rw [if_neg (by rw [HNB.out]; simp), if_neg HVV.out, if_neg (fun h => hfull h.2)]
        have e2 : setR nm v l = l ++ [(nm, v)] := by unfold setR; rw [if_pos e1, f2]
        have HE := hide (And.intro e1 e2)
        have gf : decide ((64 : Int) ≤ (l.length : Int)) = false := decide_eq_false (by omega)
        have gf' : decide (64 ≤ l.length) = false := decide_eq_false hfull
        clear e1 e2 f1 f2 HNB HVV hfull HA hlt
        go_wp2_with (at_builtin; (refine wpList_push w8 rfl _ _ 22 rfl w.heap.size 46 i0 (.agg #[.string ⟨#[]⟩, .string ⟨#[]⟩]) 2 32 Tryd.underlying22 hi0 hz0' hz1 hz2 rfl (by decide) (.slice aV l.length cV) l.length (flatR l) rfl HV8.out 1 #[.string nm, .string v] rfl rfl (by simp [Value.oneCell']) (by omega) (by decide) (by omega) ?_); intro v' w4 hv4 hg4 hat; have HV4 := hide hv4; have HG4 := hide hg4; clear hv4 hg4 hat)
        go_ret2
        rw [HE.out.1, HE.out.2]
        refine ⟨v', rfl, bl_own B8.out HV8.out HG4.out (Nat.le_refl _), ?_⟩
        rw [flatR_app, List.length_append]
        exact HV4.out
def KV : Array Value := (KL.map fun L => Value.string ⟨L.toArray⟩).toArray
theorem names_any (w : World) : Calls Tryd.prog 34 #[] w fun e w' => e = .returned (.slice (some ⟨w.heap.size, 0, none⟩) 21 21) ∧ w' = w.alloc (.cells KV 9) := by
  go_enter Tryd.func34, Tryd.ntmps34
  go_wp2
  go_ret
  exact ⟨rfl, rfl⟩
theorem kl_len : KL.length = 21 := by decide
theorem kv_at (k : Nat) (h : k < KL.length) : KV[k]? = some (.string ⟨KL[k].toArray⟩) := by
  unfold KV
  simp
set_option maxHeartbeats 4000000 in
theorem rknown_any (nm : ByteArray) (w : World) : Calls Tryd.prog 18 #[.string nm] w fun e w' => e = .returned (.bool (knB nm)) ∧ Below w.heap.size w w' := by
  obtain ⟨b, hb⟩ : ∃ b, knB nm = b := ⟨_, rfl⟩
  rw [hb]
  have HB := hide hb
  have HN := hide (names_any w)
  have hcell : ∀ k (h : k < KL.length), (w.alloc (.cells KV 9)).cell? ⟨w.heap.size, k, none⟩ = some (.string ⟨KL[k].toArray⟩) := fun k h => by
    have := cells_lit w KV 9 k _ (by rw [Array.getElem?_toList]; exact kv_at k h)
    rw [addr_add, Nat.zero_add] at this
    exact this
  have HC := hide hcell
  have hbl := bl_alloc (bl_refl w) (.cells KV 9)
  have HBL := hide hbl
  clear hb hcell hbl
  go_enter Tryd.func18, Tryd.ntmps18
  go_wp2_with fail
  refine HN.out.mono ?_
  rintro e w1 ⟨rfl, hw1⟩
  rw [← hw1] at HC HBL
  clear hw1 HN
  go_wp2
  go_loopw [4] (fun i wr => ∃ k : Nat, i = .int .i64 k ∧ k ≤ 21 ∧ Hid (∀ i (hi : i < KL.length), i < k → (nm.toList == KL[i]) = false) ∧ w1 = wr) (fun i _ => 21 - (intOf i).toNat)
  case atStart => exact ⟨0, rfl, by omega, hide (fun i _ h => by omega), rfl⟩
  case round =>
    obtain ⟨k, rfl, hk, HA, rfl⟩ := hrel
    by_cases hlt : k < 21
    · have gl : decide ((k : Int) < 21) = true := decide_eq_true (by omega)
      have gl' : decide (k < 21) = true := decide_eq_true hlt
      have hk2 : k < KL.length := by rw [kl_len]; exact hlt
      have y0 := HC.out k hk2
      obtain ⟨r, hr⟩ : ∃ r, (nm.toList == KL[k]) = r := ⟨_, rfl⟩
      have hr2 : ((⟨KL[k].toArray⟩ : ByteArray).toList == nm.toList) = r := by
        rw [← hr, Go.ByteArray.toList_eq ⟨KL[k].toArray⟩]
        show (KL[k].toArray.toList == nm.toList) = _
        rw [List.toList_toArray, Bool.eq_iff_iff, beq_iff_eq, beq_iff_eq]
        exact eq_comm
      cases r
      · have HA2 := hide (show ∀ i (hi : i < KL.length), i < k + 1 → (nm.toList == KL[i]) = false from fun i hi h => by
          rcases Nat.eq_or_lt_of_le (Nat.le_of_lt_succ h) with h1 | h1
          · subst h1; exact hr
          · exact HA.out i hi h1)
        clear hr HA
        generalize (⟨KL[k].toArray⟩ : ByteArray) = s at *
        go_wp2
        refine ⟨?_, by first | (simp [intOf]; done) | (simp [intOf]; omega)⟩
        first
          | exact ⟨k + 1, by go_num, by omega, HA2, by first | rfl | trivial⟩
          | ((repeat apply Exists.intro); exact ⟨⟨k + 1, by go_num, by omega, HA2, by first | rfl | trivial⟩, rfl⟩)
      · have hb2 : b = true := by
          rw [← HB.out]; unfold knB
          rw [List.any_eq_true]
          exact ⟨KL[k], List.getElem_mem hk2, hr⟩
        subst hb2
        clear hr HA HB
        generalize (⟨KL[k].toArray⟩ : ByteArray) = s at *
        go_wp2
        go_ret
        exact ⟨rfl, HBL.out⟩
    · obtain rfl : k = 21 := by omega
      have hb2 : b = false := by
        rw [← HB.out]; unfold knB
        rw [List.any_eq_false]
        intro L hL
        obtain ⟨i, hi, rfl⟩ := List.getElem_of_mem hL
        rw [HA.out i hi (by rw [kl_len] at hi; exact hi)]; simp
      subst hb2
      clear HA HB hlt
      go_wp2
      go_ret
      exact ⟨rfl, HBL.out⟩
end Go.Proofs.YtmjadcjpgcbalaaDoor
