/- Stretches are Apart just if each two of them are. Conditions: none beyond the form's own. -/
import Derived.Test.YtepmkpjpdidfkaaRows
import Derived.Test.YtepmkpjpdidfkaaArgs
import Derived.Test.YtepmkpjpdidfkaaSpanH
import Derived.Deep.RegionHeld3
namespace Go.Proofs.Ytepmkpjpdidfkaa.apartPairs
open Go.Proofs.Ytepmkpjpdidfkaa
open Go.ChangeShapes Go.WideShapes Go.ChangeAt Go.RowKit Go.Deep
open Go.ChangeMaps (open_string shut_string)
set_option linter.unusedVariables false

theorem own : ownKnob Try.prog.godebug = none := by kernel_rfl
theorem laidOut : laidOutB Try.prog = true := by kernel_rfl
-- opt:8000000
open SpanM
attribute [local go_sem ↓] Go.wp_at_zero Go.wp_at_succ
attribute [local go_sem] later_cell later_frozen
def Q (a b : Sp) : Prop := R a b ∨ R b a
theorem q_comm {a b : Sp} : Q a b ↔ Q b a := or_comm
theorem srt_R {l : List Sp} (h : Sorted l) (hv : ∀ s ∈ l, s.1 ≤ s.2) : l.Pairwise R ↔ l.Pairwise Q := by
  constructor
  · exact fun g => g.imp fun h => .inl h
  · intro g
    have := h.and g
    refine this.imp fun {a b} hab => ?_
    rcases hab.2 with h1 | h1
    · exact h1
    · have h2 := hab.1
      unfold le at h2
      unfold R at *
      omega
theorem apF_all (l : List Sp) (hv : ∀ s ∈ l, s.1 ≤ s.2) : apF (sortS l) = true ↔ l.Pairwise Q := by
  have hv2 : ∀ s ∈ sortS l, s.1 ≤ s.2 := fun s hs => hv s ((sortS_perm l).mem_iff.1 hs)
  rw [apF_iff, srt_R (sortS_sorted l) hv2]
  constructor
  · rintro ⟨_, h⟩
    exact ((sortS_perm l).pairwise_iff (fun {a b} h => q_comm.1 h)).1 h
  · intro h
    exact ⟨hv2, ((sortS_perm l).pairwise_iff (fun {a b} h => q_comm.1 h)).2 h⟩
theorem apF_two (a b : Sp) (ha : a.1 ≤ a.2) (hb : b.1 ≤ b.2) : apF (sortS [a, b]) = true ↔ Q a b := by
  rw [apF_all _ (by intro s hs; simp at hs; rcases hs with rfl | rfl <;> assumption)]
  simp
theorem apF_inv (l : List Sp) (i : Nat) (h : i < l.length) (hb : l[i].2 < l[i].1) : apF (sortS l) = false := by
  cases ha : apF (sortS l)
  · rfl
  · have := ((apF_iff _).1 ha).1 l[i] ((sortS_perm l).mem_iff.2 (List.getElem_mem h))
    omega
/-- What the two loops have asked so far. -/
def Asked (l : List Sp) (i j : Nat) : Prop := ∀ (x y : Nat) (hx : x < l.length) (hy : y < x), (x < i ∨ (x = i ∧ y < j)) → Q (l[y]'(by omega)) l[x]
theorem asked_end (l : List Sp) (hv : ∀ (i : Nat) (h : i < l.length), l[i].1 ≤ l[i].2) : Asked l l.length 0 ↔ apF (sortS l) = true := by
  rw [apF_all l (fun s hs => by obtain ⟨i, hi, rfl⟩ := List.getElem_of_mem hs; exact hv i hi), List.pairwise_iff_getElem]
  constructor
  · intro h i j hi hj hij
    exact h j i hj hij (.inl hj)
  · intro h x y hx hy _
    exact h y x (by omega) hx hy
theorem asked_next (l : List Sp) (i : Nat) : Asked l i i ↔ Asked l (i + 1) 0 := by
  constructor
  · intro h x y hx hy hc
    exact h x y hx hy (by omega)
  · intro h x y hx hy hc
    exact h x y hx hy (by omega)
theorem asked_step (l : List Sp) (i j : Nat) (hi : i < l.length) (hj : j < i) : Asked l i (j + 1) ↔ Asked l i j ∧ Q (l[j]'(by omega)) l[i] := by
  constructor
  · intro h
    exact ⟨fun x y hx hy hc => h x y hx hy (by omega), h i j hi hj (.inr ⟨rfl, by omega⟩)⟩
  · rintro ⟨h, g⟩ x y hx hy hc
    by_cases e : x = i ∧ y = j
    · obtain ⟨rfl, rfl⟩ := e
      exact g
    · exact h x y hx hy (by omega)
set_option maxRecDepth 100000 in
set_option maxHeartbeats 8000000 in
theorem walk (a0 : Value) (l0 : List SpanM.Sp) (w : World) (w0 : SpAt w a0 l0) (b0 : ∀ s ∈ l0, Wf s) :
    Calls Try.prog 9 #[a0] w fun e w' => e = .returned (.bool true) ∧ Below w.heap.size w w' := by
  by_cases hs : l0.length ≤ 16
  · obtain ⟨aA, cA, rfl⟩ := spat_len w0
    have W0 := hide w0
    clear w0
    have hs16 : decide ((16 : Int) < (l0.length : Int)) = false := by simp; omega
    go_enter Try.func9, Try.ntmps9
    go_wp2
    go_loopw [3, 4] (fun b i wr => ∃ (k : Nat) (t : Bool), i = .int .i64 k ∧ b = .bool t ∧ k ≤ l0.length ∧ Hid (t = true ↔ Asked l0 k 0) ∧ Hid (∀ (i : Nat) (h : i < l0.length), i < k → l0[i].1 ≤ l0[i].2) ∧ Below w.heap.size w wr)
      (fun _ i _ => l0.length - (intOf i).toNat)
    case atStart => exact ⟨0, true, rfl, rfl, Nat.zero_le _, hide (by simp only [true_iff]; intro x y hx hy hc; omega), hide (fun i h1 h2 => by omega), bl_refl w⟩
    case round =>
      obtain ⟨k, t, rfl, rfl, hk, HT, HV, hbl⟩ := hrel
      by_cases hlt : k < l0.length
      · have HA := hide (spat_below W0.out hbl)
        obtain ⟨b1, o1, c1, hv1, hc1, hm1, hlb1, hcell1⟩ := spat_some HA.out (by omega)
        injection hv1 with hv1 _ hv1c
        subst hv1 hv1c
        unfold maxLen at hm1
        obtain ⟨x1, x2⟩ := hcell1 k hlt
        by_cases hbad : l0[k].2 < l0[k].1
        · have HNO := hide (apF_inv l0 k hlt hbad)
          have hb' : decide (l0[k].2 < l0[k].1) = true := by simp [hbad]
          clear hcell1 HT HV
          generalize l0[k] = s at *
          go_wp2
          go_quiet (fail)
          go_wp2_with fail
          refine (aparte_any _ l0 false (wr.drewN nq) HA.out (by omega) HNO.out).mono ?_
          rintro e w2 ⟨rfl, hb2⟩
          go_wp2_with fail
          refine (awake5_any _).mono ?_
          rintro e w3 ⟨rfl, hb3⟩
          go_wp2
          go_ret
          exact ⟨rfl, bl_trans (bl_trans (bl_drewN hbl _) hb2) hb3⟩
        · have hb' : decide (l0[k].2 < l0[k].1) = false := by simp [hbad]
          have hv2 : ∀ (i : Nat) (h : i < l0.length), i < k + 1 → l0[i].1 ≤ l0[i].2 := fun i h hi => by
            by_cases e : i = k
            · subst e; omega
            · exact HV.out i h (by omega)
          have HV2 := hide hv2
          clear hv2 HV
          go_wp2
          go_quiet (fail)
          go_wp2
          obtain ⟨wo, hwo⟩ : ∃ wo : World, wr = wo := ⟨_, rfl⟩
          subst hwo
          clear x1 x2 hcell1 hb'
          have hbn := bl_drewN hbl nq
          have HAN : Hid (SpAt (wr.drewN nq) (.slice (some ⟨b1, o1, none⟩) l0.length cA) l0) := HA
          generalize wr.drewN nq = wo at *
          clear hbl HA
          go_loopw [3, 5] (fun b i wr => ∃ (j : Nat) (t : Bool), i = .int .i64 j ∧ b = .bool t ∧ j ≤ k ∧ Hid (t = true ↔ Asked l0 k j) ∧ Below wo.heap.size wo wr)
            (fun _ i _ => k - (intOf i).toNat)
          case atStart => exact ⟨0, t, rfl, rfl, Nat.zero_le _, HT, bl_refl wo⟩
          case round =>
            obtain ⟨j, t2, rfl, rfl, hj, HT2, hbl⟩ := hrel
            by_cases hjk : j < k
            · have hstep := asked_step l0 k j hlt hjk
              cases t2
              · have HT3 : Hid (false = true ↔ Asked l0 k (j + 1)) := hide (by
                  have := HT2.out
                  simp only [Bool.false_eq_true, false_iff] at this ⊢
                  intro h
                  exact this (hstep.1 h).1)
                clear hstep HT2
                go_wp2
                go_quiet (fail)
                go_wp2
                refine ⟨?_, by first | (simp [intOf]; done) | (simp [intOf]; omega)⟩
                first
                  | exact ⟨j + 1, false, by go_num, rfl, by omega, HT3, bl_drewN hbl _⟩
                  | ((repeat apply Exists.intro); exact ⟨⟨j + 1, false, by go_num, rfl, by omega, HT3, bl_drewN hbl _⟩, rfl⟩)
              · obtain ⟨b2, o2, c2, hv2, hc2, hm2, hlb2, hcell2⟩ := spat_some (spat_below HAN.out hbl) (by omega)
                injection hv2 with hv2 _ hv2c
                injection hv2 with hv2
                injection hv2 with hv2a hv2b
                subst hv2a hv2b hv2c
                obtain ⟨x1, x2⟩ := hcell2 k hlt
                obtain ⟨y1, y2⟩ := hcell2 j (by omega)
                have hvk := HV2.out k hlt (by omega)
                have hvj := HV2.out j (by omega) (by omega)
                have htwo := apF_two _ _ hvj hvk
                obtain ⟨r, hr⟩ : ∃ r, apF (sortS [l0[j], l0[k]]) = r := ⟨_, rfl⟩
                have HT3 : Hid (r = true ↔ Asked l0 k (j + 1)) := hide (by
                  rw [← hr, htwo, hstep]
                  have := HT2.out
                  simp only [true_iff] at this
                  exact ⟨fun h => ⟨this, h⟩, fun h => h.2⟩)
                have HR := hide hr
                have hi1 : (j : Int) < (l0.length : Int) := by omega
                have hi2 : (k : Int) < (l0.length : Int) := by omega
                have hi3 : (0 : Int) ≤ (j : Int) := by omega
                have hi4 : (0 : Int) ≤ (k : Int) := by omega
                clear hcell2 hvk hvj htwo hstep hr HT2
                generalize l0[j] = p at *
                generalize l0[k] = s at *
                go_wp2
                go_region_held3 (fun w' => w'.cell? ⟨b1, o1 + k * 2, none⟩ = some (.int .i64 s.1) ∧ w'.cell? ⟨b1, o1 + k * 2 + 1, none⟩ = some (.int .i64 s.2) ∧ w'.cell? ⟨b1, o1 + j * 2, none⟩ = some (.int .i64 p.1) ∧ w'.cell? ⟨b1, o1 + j * 2 + 1, none⟩ = some (.int .i64 p.2)) (go_keep)
                  ((go_at_call 26; refine (aparte_any _ [p, s] r _ (by exact alloc_spat wr [p, s] (by simp)) (by simp) HR.out).mono ?_; rintro e w4 ⟨rfl, hb4⟩; have hbk : Below wr.heap.size wr w4 := bl_trans (bl_drew (bl_alloc (bl_refl wr) _)) hb4; have q1 := cell_later hbk x1; have q2 := cell_later hbk x2; have q3 := cell_later hbk y1; have q4 := cell_later hbk y2; clear hbk))
                all_goals
                  have hb5 : Below wo.heap.size wo w4 := bl_trans (bl_drew (bl_alloc hbl _)) hb4
                  clear hb4
                  go_wp2
                  refine ⟨?_, by first | (simp [intOf]; done) | (simp [intOf]; omega)⟩
                  first
                    | exact ⟨j + 1, r, by go_num, rfl, by omega, HT3, hb5⟩
                    | ((repeat apply Exists.intro); exact ⟨⟨j + 1, r, by go_num, rfl, by omega, HT3, hb5⟩, rfl⟩)
            · obtain rfl : j = k := by omega
              have HT3 : Hid (t2 = true ↔ Asked l0 (j + 1) 0) := hide (HT2.out.trans (asked_next l0 j))
              have hb5 := bl_trans hbn hbl
              clear HT2
              go_wp2
              refine ⟨?_, by first | (simp [intOf]; done) | (simp [intOf]; omega)⟩
              first
                | exact ⟨j + 1, t2, by go_num, rfl, by omega, HT3, HV2, hb5⟩
                | ((repeat apply Exists.intro); exact ⟨⟨j + 1, t2, by go_num, rfl, by omega, HT3, HV2, hb5⟩, rfl⟩)
      · obtain rfl : k = l0.length := by omega
        have HA := hide (spat_below W0.out hbl)
        have hap : apF (sortS l0) = t := by
          have h1 := asked_end l0 (fun i h => HV.out i h h)
          rw [← HT.out] at h1
          rw [Bool.eq_iff_iff]
          exact h1.symm
        have HAP := hide hap
        clear hap HT HV
        go_wp2_with fail
        refine (aparte_any _ l0 t _ HA.out (by omega) HAP.out).mono ?_
        rintro e w2 ⟨rfl, hb2⟩
        go_wp2_with fail
        refine (awake5_any _).mono ?_
        rintro e w3 ⟨rfl, hb3⟩
        go_wp2
        go_ret
        exact ⟨rfl, bl_trans (bl_trans hbl hb2) hb3⟩
  · go_enter Try.func9, Try.ntmps9
    obtain ⟨aA, cA, rfl⟩ := spat_len w0
    go_wp2_with fail
    refine (awake5_any _).mono ?_
    rintro e w1 ⟨rfl, hb1⟩
    go_wp2
    go_ret
    exact ⟨rfl, hb1⟩

set_option maxRecDepth 100000 in
theorem lifted (os : Os) (started : os.Started) (H : Type) (enc : TypeId × Value → H) :
    ReturnsInHanded {} Try.checked os 9 .any (Rows.apartPairsSpec.pre6 enc Try.prog Try.f9 Rows.apartPairsRow.domain false) (Rows.apartPairsSpec.post enc Try.prog Try.f9 false true false false) := by
  refine returnsInHanded_of_change (C := Try.checked) own started (by kernel_rfl) Try.func9
    (ChangeSpec.witness6 (enc := enc) (C := Try.checked) false ⟨#[], #[.slice none 0 0], []⟩ 8 (by kernel_rfl) (by kernel_rfl) (by kernel_rfl) (by kernel_rfl)) ?_
  intro W base args ds gs before hval0 hW hcnd _
  have hval : ∀ (j : Nat) t v, Try.f9.params[j]? = some t → args[j]? = some v → Value.okWide Try.prog W .any base t v := hval0
  have hW' := hW
  obtain ⟨p, q, hA0, hV, rfl, hfz, hnd⟩ := hW
  have hA : DataW.TrodAll enc Try.prog W 0 (fun _ => true) true Try.f9.params.toList args.toList ds p := hA0
  rw [Try.params9] at hA hval
  obtain ⟨v0, vs0, d0, ds0, p0, q0, hargs, rfl, rfl, h0, r0⟩ := trodAll_cons hA
  obtain ⟨rfl, rfl, rfl⟩ := trodAll_nil r0
  obtain rfl : args = #[v0] := by cases args; simp_all
  obtain ⟨rfl, rfl⟩ := trodVars_none hV
  have k0 := h0
  have lt0 : ∀ x ∈ p0, x.block < W.heap.size := by obtain ⟨m, hm⟩ := k0; exact DataW.trod_lt m _ _ _ hm
  obtain ⟨l0, w0, b0⟩ := open_spans (hval 0 29 v0 rfl rfl) h0
  clear hA0 hval0
  refine (walk v0 l0 W w0 b0).mono fun e W' ⟨he, bel⟩ => ?_
  subst he
  exact ⟨_, rfl, _, _, _, [], _, [], hW', trodAll_mk1 (shut_bool Try.underlying4 _), (trodAll_cons_mk (Below.trod laidOut (by kernel_rfl) (of_decide_eq_true (by kernel_rfl)) k0 bel lt0) trodAll_mk0), rfl, bel.frame _, fun h => by cases h⟩

theorem over : Rows.apartPairsRow.holds Try.pinned (OpenSpec.ofChange Rows.apartPairsSpec) :=
  OpenClaim.holds_of_wide 9 Try.f9 rfl rfl rfl rfl rfl rfl rfl ⟨rfl, rfl, rfl, rfl, rfl⟩ rfl rfl rfl rfl rfl (by kernel_rfl) Try.func9 (by kernel_rfl)
    (of_decide_eq_true (by kernel_rfl)) (by unfold Func.isWrapper; first | (rw [if_pos (by decide +kernel)]; kernel_rfl) | (rw [if_neg (by decide +kernel)]; exact ⟨rfl, rfl⟩))
    (fun os started H enc _ => lifted os started H enc)

theorem proved : Rows.ApartPairsSaid := over
end Go.Proofs.Ytepmkpjpdidfkaa.apartPairs
