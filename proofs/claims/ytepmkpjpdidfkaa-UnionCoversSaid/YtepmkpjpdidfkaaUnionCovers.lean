/- A place is in one of them just if it is in one of the Union; that rises, no two of it Touch, and it is its own Union. Conditions: none beyond the form's own. -/
import Derived.Test.YtepmkpjpdidfkaaRows
import Derived.Test.YtepmkpjpdidfkaaArgs
import Derived.Test.YtepmkpjpdidfkaaSpanH
import Derived.Deep.RegionHeld3
namespace Go.Proofs.Ytepmkpjpdidfkaa.unionCovers
open Go.Proofs.Ytepmkpjpdidfkaa
open Go.ChangeShapes Go.WideShapes Go.ChangeAt Go.RowKit Go.Deep
open Go.ChangeMaps (open_string shut_string)
set_option linter.unusedVariables false

theorem own : ownKnob Try.prog.godebug = none := by kernel_rfl
theorem laidOut : laidOutB Try.prog = true := by kernel_rfl
-- opt:6000000
open SpanM
attribute [local go_sem ↓] Go.wp_at_zero Go.wp_at_succ
attribute [local go_sem] later_cell later_frozen
theorem uniF_le (l : List Sp) : (uniF (sortS l)).length ≤ l.length := by
  have := uniF_len (sortS l) (sortS l).length
  rw [List.take_of_length_le (Nat.le_refl _), sortS_len] at this
  exact this
theorem spans_eq (v u : Value) (l k : List Sp) (w : World) (h : SpAt w v l) (g : SpAt w u k) (hl : l.length ≤ 1000) (hk : k.length ≤ 1000) (e : l = k) :
    Calls Try.prog 22 #[v, u] w fun e w' => e = .returned (.bool true) ∧ Below w.heap.size w w' :=
  (spans_any v u l k w h g hl hk).mono fun _ _ ⟨he, n, hw⟩ => ⟨by rw [he, e]; simp, by rw [hw]; exact bl_drewN (bl_refl w) n⟩
def inL (l : List Sp) (x : Int) : Bool := l.any fun s => hasB s x
theorem inL_snoc (l : List Sp) (k : Nat) (x : Int) (h : k < l.length) : inL (l.take (k + 1)) x = (inL (l.take k) x || hasB l[k] x) := by
  unfold inL
  rw [List.take_succ_eq_append_getElem h, List.any_append]
  simp
theorem inL_cov (l : List Sp) (x : Int) : inL l x = true ↔ cov l (2 * x) := by
  unfold inL cov
  rw [List.any_eq_true]
  constructor
  · rintro ⟨s, hs, h⟩
    exact ⟨s, hs, by unfold hasB at h; simp at h; omega⟩
  · rintro ⟨s, hs, h⟩
    exact ⟨s, hs, by unfold hasB; simp; omega⟩
theorem inL_eq (l : List Sp) (x : Int) : inL l x = inL (uniF (sortS l)) x := by
  rw [Bool.eq_iff_iff, inL_cov, inL_cov, uni_cov _ (sortS_sorted l)]
  exact cov_mem (fun s => (sortS_perm l).mem_iff.symm) _
theorem norm_u (l : List Sp) : Norm (uniF (sortS l)) := uni_norm _ (sortS_sorted l)
theorem u_self (l : List Sp) : uniF (sortS (uniF (sortS l))) = uniF (sortS l) := by
  rw [sortS_eq (List.Perm.refl _) (norm_sorted _ (norm_u l)), uni_self _ (norm_u l)]
theorem norm_at (l : List Sp) (h : Norm l) (i : Nat) (hi : i < l.length) : l[i].1 ≤ l[i].2 := h.valid _ (List.getElem_mem hi)
theorem norm_next (l : List Sp) (h : Norm l) (j : Nat) (hj : j + 1 < l.length) : (l[j]'(by omega)).2 < l[j + 1].1 := (List.pairwise_iff_getElem.1 h.apart) j (j + 1) (by omega) hj (by omega)
set_option maxRecDepth 100000 in
set_option maxHeartbeats 6000000 in
theorem walk (a0 : Value) (l0 : List SpanM.Sp) (a1 : Int) (w : World) (w0 : SpAt w a0 l0) (b0 : ∀ s ∈ l0, Wf s) (w1 : (Lit.int .i64 a1).wf = true) :
    Calls Try.prog 6 #[a0, .int .i64 a1] w fun e w' => e = .returned (.bool true) ∧ Below w.heap.size w w' := by
  by_cases hs : l0.length ≤ 40
  · obtain ⟨aA, cA, rfl⟩ := spat_len w0
    have W0 := hide w0
    clear w0
    have hs40 : decide ((40 : Int) < (l0.length : Int)) = false := by simp; omega
    have hun := hide (norm_u l0)
    have hus := hide (u_self l0)
    have hin := hide (inL_eq l0 a1)
    have hul := uniF_le l0
    go_enter Try.func6, Try.ntmps6
    go_wp2_with fail
    refine (union_any _ l0 _ W0.out (by omega)).mono ?_
    rintro e w2 ⟨v1, rfl, hb2, ho2⟩
    obtain ⟨U, hU⟩ : ∃ U, uniF (sortS l0) = U := ⟨_, rfl⟩
    rw [hU] at ho2 hun hus hin hul
    clear hU
    obtain ⟨aU, cU, rfl⟩ := own_slice ho2
    have HU := hide (own_spat ho2)
    have HA := hide (spat_below W0.out hb2)
    clear ho2 W0
    go_wp2
    go_loopw [6, 8] (fun b i wr => ∃ (k : Nat) (t : Bool), i = .int .i64 k ∧ b = .bool t ∧ k ≤ l0.length ∧ Hid (inL (l0.take k) a1 = t) ∧ w2 = wr)
      (fun _ i _ => l0.length - (intOf i).toNat)
    case atStart => exact ⟨0, false, rfl, rfl, Nat.zero_le _, hide rfl, rfl⟩
    case round =>
      obtain ⟨k, t, rfl, rfl, hk, HT, rfl⟩ := hrel
      by_cases hlt : k < l0.length
      · obtain ⟨b1, o1, c1, hv1, hc1, hm1, hlb1, hcell1⟩ := spat_some HA.out (by omega)
        injection hv1 with hv1 _ hv1c
        subst hv1 hv1c
        unfold maxLen at hm1
        obtain ⟨x1, x2⟩ := hcell1 k hlt
        have hsn := inL_snoc l0 k a1 hlt
        rw [HT.out] at hsn
        have hhb : hasB l0[k] a1 = decide (l0[k].1 ≤ a1 ∧ a1 ≤ l0[k].2) := rfl
        rw [hhb] at hsn
        have HSN := hide hsn
        clear hsn hhb HT hcell1
        generalize l0[k] = s at *
        cases t
        · by_cases h1 : s.1 ≤ a1
          · by_cases h2 : a1 ≤ s.2
            · have HT2 : Hid (inL (l0.take (k + 1)) a1 = true) := hide (by rw [HSN.out]; simp [h1, h2])
              clear HSN
              go_wp2
              refine ⟨?_, by first | (simp [intOf]; done) | (simp [intOf]; omega)⟩
              first
                | exact ⟨k + 1, true, by go_num, rfl, by omega, HT2, by first | rfl | trivial⟩
                | ((repeat apply Exists.intro); exact ⟨⟨k + 1, true, by go_num, rfl, by omega, HT2, by first | rfl | trivial⟩, rfl⟩)
            · have h2' : decide (a1 ≤ s.2) = false := by simp; omega
              have HT2 : Hid (inL (l0.take (k + 1)) a1 = false) := hide (by rw [HSN.out]; simp [h1]; omega)
              clear HSN
              go_wp2
              refine ⟨?_, by first | (simp [intOf]; done) | (simp [intOf]; omega)⟩
              first
                | exact ⟨k + 1, false, by go_num, rfl, by omega, HT2, by first | rfl | trivial⟩
                | ((repeat apply Exists.intro); exact ⟨⟨k + 1, false, by go_num, rfl, by omega, HT2, by first | rfl | trivial⟩, rfl⟩)
          · have h1' : decide (s.1 ≤ a1) = false := by simp; omega
            have HT2 : Hid (inL (l0.take (k + 1)) a1 = false) := hide (by rw [HSN.out]; simp; omega)
            clear HSN
            go_wp2
            refine ⟨?_, by first | (simp [intOf]; done) | (simp [intOf]; omega)⟩
            first
              | exact ⟨k + 1, false, by go_num, rfl, by omega, HT2, by first | rfl | trivial⟩
              | ((repeat apply Exists.intro); exact ⟨⟨k + 1, false, by go_num, rfl, by omega, HT2, by first | rfl | trivial⟩, rfl⟩)
        · have HT2 : Hid (inL (l0.take (k + 1)) a1 = true) := hide (by rw [HSN.out]; simp)
          clear HSN
          go_wp2
          refine ⟨?_, by first | (simp [intOf]; done) | (simp [intOf]; omega)⟩
          first
            | exact ⟨k + 1, true, by go_num, rfl, by omega, HT2, by first | rfl | trivial⟩
            | ((repeat apply Exists.intro); exact ⟨⟨k + 1, true, by go_num, rfl, by omega, HT2, by first | rfl | trivial⟩, rfl⟩)
      · obtain rfl : k = l0.length := by omega
        have ht : inL U a1 = t := by
          have := HT.out
          rw [List.take_of_length_le (Nat.le_refl _), hin.out] at this
          exact this
        have HTT := hide ht
        clear HT ht hin hlt
        go_wp2
        go_loopw [7, 9] (fun b i wr => ∃ (k : Nat) (t' : Bool), i = .int .i64 k ∧ b = .bool t' ∧ k ≤ U.length ∧ Hid (inL (U.take k) a1 = t') ∧ Below w2.heap.size w2 wr)
          (fun _ i _ => U.length - (intOf i).toNat)
        case atStart => exact ⟨0, false, rfl, rfl, Nat.zero_le _, hide rfl, bl_refl w2⟩
        case round =>
          obtain ⟨k, t', rfl, rfl, hk, HT, hbl⟩ := hrel
          by_cases hlt : k < U.length
          · obtain ⟨b1, o1, c1, hv1, hc1, hm1, hlb1, hcell1⟩ := spat_some (spat_below HU.out hbl) (by omega)
            injection hv1 with hv1 _ hv1c
            subst hv1 hv1c
            unfold maxLen at hm1
            obtain ⟨x1, x2⟩ := hcell1 k hlt
            have hva := norm_at U hun.out k hlt
            have g1 : decide (U[k].2 < U[k].1) = false := by simp; omega
            rcases Nat.eq_zero_or_pos k with hk0 | hk0
            · subst hk0
              rw [Nat.zero_mul, Nat.add_zero] at x1 x2
              have HS2 := inL_snoc U 0 a1 hlt
              rw [HT.out] at HS2
              have HSN := hide HS2
              clear HS2 HT hcell1
              generalize U[0] = s at *
              cases t'
              · obtain ⟨r, hr⟩ : ∃ r, hasB s a1 = r := ⟨_, rfl⟩
                have HT2 : Hid (inL (U.take (0 + 1)) a1 = r) := hide (by rw [HSN.out, hr]; simp)
                have HR := hide hr
                clear HSN hr
                go_wp2_with fail
                refine (c3 s a1 r _ HR.out).mono ?_
                rintro e w9 ⟨rfl, hb9⟩
                have z1 := cell_later hb9 x1
                have z2 := cell_later hb9 x2
                have hbl9 := bl_trans hbl hb9
                clear hb9 x1 x2
                go_wp2
                go_quiet (fail)
                go_wp2
                refine ⟨?_, by first | (simp [intOf]; done) | (simp [intOf]; omega)⟩
                first
                  | exact ⟨0 + 1, r, by go_num, rfl, by omega, HT2, bl_drewN hbl9 _⟩
                  | ((repeat apply Exists.intro); exact ⟨⟨0 + 1, r, by go_num, rfl, by omega, HT2, bl_drewN hbl9 _⟩, rfl⟩)
              · have HT2 : Hid (inL (U.take (0 + 1)) a1 = true) := hide (by rw [HSN.out]; simp)
                clear HSN
                go_wp2
                go_quiet (fail)
                go_wp2
                refine ⟨?_, by first | (simp [intOf]; done) | (simp [intOf]; omega)⟩
                first
                  | exact ⟨0 + 1, true, by go_num, rfl, by omega, HT2, bl_drewN hbl _⟩
                  | ((repeat apply Exists.intro); exact ⟨⟨0 + 1, true, by go_num, rfl, by omega, HT2, bl_drewN hbl _⟩, rfl⟩)
            · obtain ⟨j, rfl⟩ : ∃ j, k = j + 1 := ⟨k - 1, by omega⟩
              obtain ⟨y1, y2⟩ := hcell1 j (by omega)
              have hnx := norm_next U hun.out j hlt
              have g2 : decide (U[j + 1].1 ≤ U[j].2) = false := by simp; omega
              have hj0 : decide ((0 : Int) < (j : Int) + 1) = true := by first | (simp; done) | (simp; omega)
              clear hk0
              have HS2 := inL_snoc U (j + 1) a1 hlt
              rw [HT.out] at HS2
              have HSN := hide HS2
              clear HS2 HT hcell1
              generalize U[j + 1] = s at *
              generalize U[j] = p at *
              cases t'
              · obtain ⟨r, hr⟩ : ∃ r, hasB s a1 = r := ⟨_, rfl⟩
                have HT2 : Hid (inL (U.take (j + 1 + 1)) a1 = r) := hide (by rw [HSN.out, hr]; simp)
                have HR := hide hr
                clear HSN hr
                go_wp2_with fail
                refine (c3 s a1 r _ HR.out).mono ?_
                rintro e w9 ⟨rfl, hb9⟩
                have z1 := cell_later hb9 x1
                have z2 := cell_later hb9 x2
                have z3 := cell_later hb9 y1
                have z4 := cell_later hb9 y2
                have hbl9 := bl_trans hbl hb9
                clear hb9 x1 x2
                go_wp2
                go_quiet (fail)
                go_wp2
                refine ⟨?_, by first | (simp [intOf]; done) | (simp [intOf]; omega)⟩
                first
                  | exact ⟨j + 1 + 1, r, by go_num, rfl, by omega, HT2, bl_drewN hbl9 _⟩
                  | ((repeat apply Exists.intro); exact ⟨⟨j + 1 + 1, r, by go_num, rfl, by omega, HT2, bl_drewN hbl9 _⟩, rfl⟩)
              · have HT2 : Hid (inL (U.take (j + 1 + 1)) a1 = true) := hide (by rw [HSN.out]; simp)
                clear HSN
                go_wp2
                go_quiet (fail)
                go_wp2
                refine ⟨?_, by first | (simp [intOf]; done) | (simp [intOf]; omega)⟩
                first
                  | exact ⟨j + 1 + 1, true, by go_num, rfl, by omega, HT2, bl_drewN hbl _⟩
                  | ((repeat apply Exists.intro); exact ⟨⟨j + 1 + 1, true, by go_num, rfl, by omega, HT2, bl_drewN hbl _⟩, rfl⟩)
          · obtain rfl : k = U.length := by omega
            have ht : t' = t := by
              have := HT.out
              rw [List.take_of_length_le (Nat.le_refl _), HTT.out] at this
              exact this.symm
            subst ht
            have HS := hide (spat_below HU.out hbl)
            clear HT HTT hlt
            go_wp2_with fail
            refine (unione_any _ U U _ HS.out (by omega) hus.out).mono ?_
            rintro e w5 ⟨v5, rfl, hb5, ho5⟩
            have H5 := hide (own_spat ho5)
            have HS5 := hide (spat_below HS.out hb5)
            clear ho5
            go_wp2_with fail
            refine (spans_eq v5 _ U U _ H5.out HS5.out (by omega) (by omega) rfl).mono ?_
            rintro e w6 ⟨rfl, hb6⟩
            go_wp2_with fail
            refine (awake5_any _).mono ?_
            rintro e w7 ⟨rfl, hb7⟩
            go_wp2
            go_ret
            exact ⟨rfl, bl_trans (bl_trans (bl_trans (bl_trans hb2 hbl) hb5) hb6) hb7⟩
  · go_enter Try.func6, Try.ntmps6
    obtain ⟨aA, cA, rfl⟩ := spat_len w0
    go_wp2_with fail
    refine (awake5_any _).mono ?_
    rintro e w1 ⟨rfl, hb1⟩
    go_wp2
    go_ret
    exact ⟨rfl, hb1⟩

set_option maxRecDepth 100000 in
theorem lifted (os : Os) (started : os.Started) (H : Type) (enc : TypeId × Value → H) :
    ReturnsInHanded {} Try.checked os 6 .any (Rows.unionCoversSpec.pre6 enc Try.prog Try.f6 Rows.unionCoversRow.domain false) (Rows.unionCoversSpec.post enc Try.prog Try.f6 false true false false) := by
  refine returnsInHanded_of_change (C := Try.checked) own started (by kernel_rfl) Try.func6
    (ChangeSpec.witness6 (enc := enc) (C := Try.checked) false ⟨#[], #[.slice none 0 0, .int .i64 0], []⟩ 8 (by kernel_rfl) (by kernel_rfl) (by kernel_rfl) (by kernel_rfl)) ?_
  intro W base args ds gs before hval0 hW hcnd _
  have hval : ∀ (j : Nat) t v, Try.f6.params[j]? = some t → args[j]? = some v → Value.okWide Try.prog W .any base t v := hval0
  have hW' := hW
  obtain ⟨p, q, hA0, hV, rfl, hfz, hnd⟩ := hW
  have hA : DataW.TrodAll enc Try.prog W 0 (fun _ => true) true Try.f6.params.toList args.toList ds p := hA0
  rw [Try.params6] at hA hval
  obtain ⟨v0, vs0, d0, ds0, p0, q0, hargs, rfl, rfl, h0, r0⟩ := trodAll_cons hA
  obtain ⟨v1, vs1, d1, ds1, p1, q1, rfl, rfl, rfl, h1, r1⟩ := trodAll_cons r0
  obtain ⟨rfl, rfl, rfl⟩ := trodAll_nil r1
  obtain rfl : args = #[v0, v1] := by cases args; simp_all
  obtain ⟨rfl, rfl⟩ := trodVars_none hV
  have k0 := h0
  have lt0 : ∀ x ∈ p0, x.block < W.heap.size := by obtain ⟨m, hm⟩ := k0; exact DataW.trod_lt m _ _ _ hm
  obtain ⟨l0, w0, b0⟩ := open_spans (hval 0 29 v0 rfl rfl) h0
  have k1 := h1
  have lt1 : ∀ x ∈ p1, x.block < W.heap.size := by obtain ⟨m, hm⟩ := k1; exact DataW.trod_lt m _ _ _ hm
  obtain ⟨a1, rfl, hd1, hp1, w1⟩ := open_int Try.underlying3 (hval 1 3 v1 rfl rfl) h1
  clear hA0 hval0
  refine (walk v0 l0 a1 W w0 b0 w1).mono fun e W' ⟨he, bel⟩ => ?_
  subst he
  exact ⟨_, rfl, _, _, _, [], _, [], hW', trodAll_mk1 (shut_bool Try.underlying4 _), (trodAll_cons_mk (Below.trod laidOut (by kernel_rfl) (of_decide_eq_true (by kernel_rfl)) k0 bel lt0) (trodAll_cons_mk (Below.trod laidOut (by kernel_rfl) (of_decide_eq_true (by kernel_rfl)) k1 bel lt1) trodAll_mk0)), rfl, bel.frame _, fun h => by cases h⟩

theorem over : Rows.unionCoversRow.holds Try.pinned (OpenSpec.ofChange Rows.unionCoversSpec) :=
  OpenClaim.holds_of_wide 6 Try.f6 rfl rfl rfl rfl rfl rfl rfl ⟨rfl, rfl, rfl, rfl, rfl⟩ rfl rfl rfl rfl rfl (by kernel_rfl) Try.func6 (by kernel_rfl)
    (of_decide_eq_true (by kernel_rfl)) (by unfold Func.isWrapper; first | (rw [if_pos (by decide +kernel)]; kernel_rfl) | (rw [if_neg (by decide +kernel)]; exact ⟨rfl, rfl⟩))
    (fun os started H enc _ => lifted os started H enc)

theorem proved : Rows.UnionCoversSaid := over
end Go.Proofs.Ytepmkpjpdidfkaa.unionCovers
