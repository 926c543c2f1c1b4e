/- Contract of Union: stretches put together. No condition but short slices. -/
import Derived.Test.YtepmkpjpdidfkaaSpanE
import Derived.Deep.RegionHeld3
import Derived.RegionTactic
namespace Go.Proofs.Ytepmkpjpdidfkaa
open Go.ChangeShapes Go.WideShapes Go.ChangeAt Go.RowKit
open SpanM
attribute [local go_sem ↓] Go.wp_at_zero Go.wp_at_succ
attribute [local go_sem] later_cell later_frozen
theorem uniF_snoc (l : List Sp) (k : Nat) (h : k < l.length) : uniF (l.take (k + 1)) = stepU (uniF (l.take k)) l[k] := by
  unfold uniF
  rw [List.take_succ_eq_append_getElem h, List.foldl_append]
  rfl
theorem step_skip (acc : List Sp) (s : Sp) (h : s.2 < s.1) : stepU acc s = acc := by unfold stepU; rw [if_pos h]
theorem step_nil (s : Sp) (h : ¬ s.2 < s.1) : stepU [] s = [s] := by unfold stepU; rw [if_neg (by omega)]; rfl
theorem step_on (a0 : List Sp) (t s : Sp) (h : ¬ s.2 < s.1) (ht : touch t s = true) : stepU (a0 ++ [t]) s = a0 ++ [(t.1, max t.2 s.2)] := by
  unfold stepU; rw [if_neg (by omega)]; simp [ht]
theorem step_new (a0 : List Sp) (t s : Sp) (h : ¬ s.2 < s.1) (ht : touch t s = false) : stepU (a0 ++ [t]) s = a0 ++ [t] ++ [s] := by
  unfold stepU; rw [if_neg (by omega)]; simp [ht]
theorem step_len (acc : List Sp) (s : Sp) : (stepU acc s).length ≤ acc.length + 1 := by
  by_cases h : s.2 < s.1
  · rw [step_skip _ _ h]; omega
  · rcases List.eq_nil_or_concat acc with rfl | ⟨a0, t, rfl⟩
    · rw [step_nil _ h]; simp
    · rw [List.concat_eq_append]
      cases ht : touch t s
      · rw [step_new _ _ _ h ht]; simp
      · rw [step_on _ _ _ h ht]; simp
theorem uniF_len (l : List Sp) (k : Nat) : (uniF (l.take k)).length ≤ k := by
  induction k with
  | zero => simp [uniF]
  | succ k ih =>
    by_cases h : k < l.length
    · rw [uniF_snoc l k h]; have := step_len (uniF (l.take k)) l[k]; omega
    · rw [List.take_of_length_le (by omega)]
      rw [List.take_of_length_le (by omega)] at ih
      omega
theorem touche_any (a b : Sp) (r : Bool) (w : World) (h : touch a b = r) : Calls Try.prog 19 #[.agg #[.int .i64 a.1, .int .i64 a.2], .agg #[.int .i64 b.1, .int .i64 b.2]] w fun e w' => e = .returned (.bool r) ∧ Below w.heap.size w w' := by
  rw [← h]; exact touch_any a b w
/-- What a round of Union's loop keeps. -/
def UInv (S : List Sp) (w1 : World) (v i : Value) (wr : World) : Prop :=
  ∃ k : Nat, i = .int .i64 k ∧ k ≤ S.length ∧ wr.ownsRow w1.heap.size 23 2 v (uniF (S.take k)).length (flat (uniF (S.take k))) ∧ Below w1.heap.size w1 wr
set_option maxRecDepth 100000 in
set_option maxHeartbeats 4000000 in
theorem union_any (v : Value) (l : List Sp) (w : World) (h : SpAt w v l) (hl : l.length ≤ 1000) :
    Calls Try.prog 23 #[v] w fun e w' => ∃ v', e = .returned v' ∧ Below w.heap.size w w' ∧ w'.ownsRow w.heap.size 23 2 v' (uniF (sortS l)).length (flat (uniF (sortS l))) := by
  obtain ⟨i0, hi0, hz0', hz1, hz2⟩ := info_parts info_sp
  have H := hide h
  clear h
  go_enter Try.func23, Try.ntmps23
  go_wp2_with fail
  refine (asc_any v l _ H.out hl).mono ?_
  rintro e w1 ⟨vA, rfl, hb1, ho1⟩
  have hS := sortS_len l
  obtain ⟨S, hSS⟩ : ∃ S, sortS l = S := ⟨_, rfl⟩
  rw [hSS] at hS ho1
  have HSS := hide hSS
  clear hSS
  have hSl : S.length ≤ 1000 := by omega
  have hsp := own_spat ho1
  have HSP := hide hsp
  obtain ⟨aA, cA, rfl⟩ := spat_len hsp
  clear hsp ho1 hS H
  go_wp2
  go_loopw [3, 10] (fun v i wr => UInv S w1 v i wr) (fun _ i _ => S.length - (intOf i).toNat)
  case atStart => exact ⟨0, rfl, Nat.zero_le _, ⟨rfl, .inl ⟨rfl, rfl⟩⟩, bl_refl w1⟩
  case round =>
    obtain ⟨k, rfl, hk, hv, hbl⟩ := hrel
    by_cases hlt : k < S.length
    · have hus := uniF_snoc S k hlt
      have hul := uniF_len S k
      obtain ⟨b1, o1, c1, hv1, hc1, hm1, hlb1, hcell1⟩ := spat_some (spat_below HSP.out hbl) (by omega)
      injection hv1 with hv1 _ hv1c
      subst hv1 hv1c
      unfold maxLen at hm1
      obtain ⟨x1, x2⟩ := hcell1 k hlt
      clear hcell1
      obtain ⟨s, hs⟩ : ∃ s, S[k] = s := ⟨_, rfl⟩
      rw [hs] at hus x1 x2
      have HUS := hide hus
      clear hus hs
      obtain ⟨acc, hacc⟩ : ∃ acc, uniF (S.take k) = acc := ⟨_, rfl⟩
      rw [hacc] at HUS hv hul
      have fin : ∀ (v' : Value) (W : World) (acc' : List Sp), stepU acc s = acc' → W.ownsRow w1.heap.size 23 2 v' acc'.length (flat acc') → Below w1.heap.size w1 W → UInv S w1 v' (.int .i64 ((k : Int) + 1)) W :=
        fun v' W acc' h1 h2 h3 => ⟨k + 1, by go_num, by omega, by rw [HUS.out, h1]; exact h2, h3⟩
      have FIN := hide fin
      clear fin HUS hacc
      by_cases hsk : s.2 < s.1
      · have hst := hide (step_skip acc s hsk)
        have hv2 := World.ownsRow.alloc hv (.cells #[.int .i64 s.1, .int .i64 s.2] 23)
        have HV2 := hide hv2
        clear hv hv2
        go_wp2
        refine ⟨?_, by first | (simp [intOf]; done) | (simp [intOf]; omega)⟩
        exact FIN.out _ _ _ hst.out HV2.out (bl_alloc hbl _)
      · have hbw : w1.heap.size ≤ wr.heap.size := hbl.size
        rcases List.eq_nil_or_concat acc with rfl | ⟨a0, t, rfl⟩
        · have hst := hide (step_nil s hsk)
          have hd : decide ((0 : Int) ≤ -1) = false := by decide
          have hv2 := World.ownsRow.alloc hv (.cells #[.int .i64 s.1, .int .i64 s.2] 23)
          have HV2 := hide hv2
          have hbl2 := bl_alloc hbl (.cells #[.int .i64 s.1, .int .i64 s.2] 23)
          obtain ⟨aV, cV, rfl⟩ := own_slice hv
          clear hv hv2
          go_wp2
          go_quiet (fail)
          go_wp2_with (at_builtin; (refine wpList_push ((wr.alloc (.cells #[.int .i64 s.1, .int .i64 s.2] 23)).drewN nq) rfl _ _ 29 rfl w1.heap.size 23 i0 (.agg #[.int .i64 0, .int .i64 0]) 2 16 Try.underlying29 hi0 hz0' hz1 hz2 rfl (by decide) (.slice aV 0 cV) 0 [] rfl HV2.out 1 #[.int .i64 s.1, .int .i64 s.2] (by show Value.slice (some ⟨wr.heap.size + 1, 0, none⟩) 1 1 = _; simp) rfl (by simp [Value.oneCell']) (by first | (simp; done) | (simp; omega)) (by decide) (by first | (simp; done) | (simp; omega)) ?_); intro v' w4 hv4 hg4 hat)
          have hv5 : w4.ownsRow w1.heap.size 23 2 v' ([s] : List Sp).length (flat [s]) := hv4
          have hbl4 : Below w1.heap.size w1 w4 := bl_own (bl_drewN hbl2 nq) HV2.out hg4 (Nat.le_refl _)
          refine ⟨?_, by first | (simp [intOf]; done) | (simp [intOf]; omega)⟩
          exact FIN.out _ _ _ hst.out hv5 hbl4
        · rw [List.concat_eq_append] at *
          obtain ⟨m, hm⟩ : ∃ m, a0.length = m := ⟨_, rfl⟩
          have hlen : (a0 ++ [t]).length = m + 1 := by simp [hm]
          have hat2 := flat_at (a0 ++ [t]) m (by omega)
          have hget : (a0 ++ [t])[m]'(by omega) = t := by subst hm; simp
          rw [hget] at hat2
          rw [hlen] at hv hul
          rcases own_form hv with ⟨_, h1, _⟩ | ⟨g, cg, rfl, hg1, hg2, hg3, hg4, hg5⟩
          · omega
          have y1 := hg5 _ _ hat2.1
          have y2 := hg5 _ _ hat2.2
          have yf := World.ownsRow.frozenAt hv (m * 2 + 1)
          unfold maxLen at hg4
          have hg2' : g < wr.heap.size + 1 := by omega
          have hd : decide ((0 : Int) ≤ (m : Int)) = true := by simp
          have hv2 := World.ownsRow.alloc hv (.cells #[.int .i64 s.1, .int .i64 s.2] 23)
          have HV2 := hide hv2
          have hbl2 := bl_alloc hbl (.cells #[.int .i64 s.1, .int .i64 s.2] 23)
          have hset : (flat (a0 ++ [t])).set (m * 2 + 1) (.int .i64 (max t.2 s.2)) = flat (a0 ++ [(t.1, max t.2 s.2)]) := by
            rw [flat_set1 _ m (by omega), hget]
            subst hm
            simp
          have HSET := hide hset
          have HM := hide hm
          clear hv hv2 hg5 hat2 hget hset hlen hm
          obtain ⟨r, hr⟩ : ∃ r, touch t s = r := ⟨_, rfl⟩
          have HR := hide hr
          have HSK := hide hsk
          clear hr
          go_wp2
          refine wp_region_later (by kernel_rfl) (by kernel_rfl) ?_
          repeat (go_big_quiet_step (first | (go_at_call 19; exact later_call (touche_any t s r _ HR.out)) | exact rfl))
          refine wpQuiet_nil ?_
          rintro w9 ⟨⟨_, hb9⟩, rfl⟩
          have HV9 := hide (own_below HV2.out hb9)
          have hbl9 := bl_trans hbl2 hb9
          have hb9s : wr.heap.size + 1 ≤ w9.heap.size := by have := hb9.size; simpa using this
          have z1' : w9.cell? ⟨wr.heap.size, 0, none⟩ = some (.int .i64 s.1) := by
            rw [(bl_cell hb9).1 wr.heap.size 0 (by simp)]
            go_simp
          have z2' : w9.cell? ⟨wr.heap.size, 1, none⟩ = some (.int .i64 s.2) := by
            rw [(bl_cell hb9).1 wr.heap.size 1 (by simp)]
            go_simp
          cases r
          · have hst := hide (step_new a0 t s (by have := HSK.out; omega) HR.out)
            go_wp2_with (at_builtin; (refine wpList_push w9 rfl _ _ 29 rfl w1.heap.size 23 i0 (.agg #[.int .i64 0, .int .i64 0]) 2 16 Try.underlying29 hi0 hz0' hz1 hz2 rfl (by decide) (.slice (some ⟨g, 0, none⟩) (m + 1) cg) (m + 1) (flat (a0 ++ [t])) rfl HV9.out 1 #[.int .i64 s.1, .int .i64 s.2] rfl rfl (by simp [Value.oneCell']) (by omega) (by decide) (by omega) ?_); intro v' w4 hv4 hg4 hat)
            have hv5 : w4.ownsRow w1.heap.size 23 2 v' (a0 ++ [t] ++ [s]).length (flat (a0 ++ [t] ++ [s])) := by
              have e1 : (a0 ++ [t] ++ [s]).length = m + 1 + 1 := by have := HM.out; simp; omega
              rw [e1, flat_app]
              exact hv4
            have hbl4 : Below w1.heap.size w1 w4 := bl_own hbl9 HV9.out hg4 (Nat.le_refl _)
            refine ⟨?_, by first | (simp [intOf]; done) | (simp [intOf]; omega)⟩
            exact FIN.out _ _ _ hst.out hv5 hbl4
          · have hst := hide (step_on a0 t s (by have := HSK.out; omega) HR.out)
            have fin2 : ∀ x, max t.2 s.2 = x → UInv S w1 (.slice (some ⟨g, 0, none⟩) (m + 1) cg) (.int .i64 ((k : Int) + 1)) (w9.drew.setCell ⟨g, m * 2 + 1, none⟩ (.int .i64 x)) := by
              rintro x rfl
              refine FIN.out _ _ _ hst.out ?_ (bl_set (bl_drew hbl9) hg1 _)
              have h9 := (World.ownsRow.stored (World.ownsRow.drew HV9.out) (m * 2 + 1) (.int .i64 (max t.2 s.2))).1
              rw [HSET.out] at h9
              have e1 : (a0 ++ [(t.1, max t.2 s.2)]).length = m + 1 := by have := HM.out; simp; omega
              rw [e1]
              exact h9
            have FIN2 := hide fin2
            have y2' : w9.cell? ⟨g, m * 2 + 1, none⟩ = some (.int .i64 t.2) := by
              rw [(bl_cell hb9).1 g (m * 2 + 1) (by simpa using hg2')]
              go_simp
            have yf' : w9.frozen? ⟨g, m * 2 + 1, none⟩ = false := World.ownsRow.frozenAt HV9.out _
            clear fin2 FIN y1 y2 yf x1 x2
            go_wp2
            go_region
            all_goals
              go_wp2
              refine ⟨?_, by first | (simp [intOf]; done) | (simp [intOf]; omega)⟩
              exact FIN2.out _ (by omega)
    · obtain rfl : k = S.length := by omega
      rw [List.take_of_length_le (Nat.le_refl _)] at hv
      have HV := hide hv
      clear hv hlt
      go_wp2
      go_ret
      exact ⟨_, rfl, bl_trans hb1 hbl, by rw [HSS.out]; exact own_base HV.out hb1.size⟩
end Go.Proofs.Ytepmkpjpdidfkaa
