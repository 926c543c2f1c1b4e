/- Contract: selections put in order, those that touch put together. Condition: no more than the library's sort is known to put in order (StabOK). -/
import Derived.Test.YtjkjgfgblfioeaaSelC
import Derived.Test.YtjkjgfgblfioeaaSelD
import Derived.Test.YtjkjgfgblfioeaaSelB
import Derived.Test.YtjkjgfgblfioeaaSymA
namespace Go.Proofs.Ytjkjgfgblfioeaa
open Go.ChangeShapes Go.WideShapes Go.ChangeAt Go.RowKit
open SpanM SelM
attribute [local go_sem ↓] Go.wp_at_zero Go.wp_at_succ
attribute [local go_sem] later_cell later_frozen
set_option maxRecDepth 100000
set_option linter.unusedVariables false
/-- The library's stable sort puts up to K selections in order. -/
def StabOK (K : Nat) : Prop := ∀ (g c base : Nat) (l : List Sp) (w : World), w.ownsRow base 38 2 (.slice (some ⟨g, 0, none⟩) l.length c) l.length (flat l) → l.length ≤ K →
  Calls Try.prog 26 #[.slice (some ⟨g, 0, none⟩) l.length c, .func (.func 27) #[] #[]] w fun e w' =>
    e = .returned (.tuple #[]) ∧ w.grownBy w' (some g) ∧ w'.ownsRow base 38 2 (.slice (some ⟨g, 0, none⟩) l.length c) l.length (flat (sortL l))
theorem stab20 : StabOK 20 := fun g c base l w h hl => sstableL_any g c base l w h hl
def stepL (acc : List Sp) (s : Sp) : List Sp := match acc.getLast? with
  | none => [s]
  | some t => if touch (ky t) (ky s) = true then acc.dropLast ++ [covL t s] else acc ++ [s]
def mrgF (l : List Sp) : List Sp := l.foldl stepL []
theorem mrg_snoc (l : List Sp) (k : Nat) (h : k < l.length) : mrgF (l.take (k + 1)) = stepL (mrgF (l.take k)) l[k] := by
  unfold mrgF; rw [List.take_succ_eq_append_getElem h, List.foldl_append]; rfl
theorem stL_nil (s : Sp) : stepL [] s = [] ++ [s] := rfl
theorem stL_on (a0 : List Sp) (t s : Sp) (h : touch (ky t) (ky s) = true) : stepL (a0 ++ [t]) s = a0 ++ [covL t s] := by unfold stepL; simp [h]
theorem stL_new (a0 : List Sp) (t s : Sp) (h : touch (ky t) (ky s) = false) : stepL (a0 ++ [t]) s = a0 ++ [t] ++ [s] := by unfold stepL; simp [h]
theorem stL_len (acc : List Sp) (s : Sp) : (stepL acc s).length ≤ acc.length + 1 := by
  rcases List.eq_nil_or_concat acc with rfl | ⟨a0, t, rfl⟩
  · simp [stepL]
  · rw [List.concat_eq_append]
    rcases h : touch (ky t) (ky s) with _ | _
    · rw [stL_new a0 t s h]; simp
    · rw [stL_on a0 t s h]; simp
theorem mrg_le (l : List Sp) (k : Nat) : (mrgF (l.take k)).length ≤ k := by
  induction k with
  | zero => simp [mrgF]
  | succ k ih =>
    by_cases h : k < l.length
    · rw [mrg_snoc l k h]
      have := stL_len (mrgF (l.take k)) l[k]
      omega
    · have e : l.take (k + 1) = l.take k := by rw [List.take_of_length_le (by omega), List.take_of_length_le (by omega)]
      rw [e]; omega
theorem lstep (M S A : List Sp) (i k : Nat) (x : Sp) (hi : i ≤ k) (hM : M.length = S.length) (hk : k < S.length) (hd : M.drop k = S.drop k) (ht : M.take i = A) :
    (M.set i x).take (i + 1) = A ++ [x] ∧ (M.set i x).drop (k + 1) = S.drop (k + 1) ∧ (M.set i x).length = S.length := by
  refine ⟨?_, ?_, by simp [hM]⟩
  · rw [List.take_succ_eq_append_getElem (by simp; omega), List.getElem_set_self, List.take_set_of_le (Nat.le_refl i), ht]
  · rw [List.drop_set_of_lt (by omega), ← List.drop_drop, hd, List.drop_drop]
theorem lget (M S : List Sp) (k : Nat) (hM : M.length = S.length) (hk : k < S.length) (hd : M.drop k = S.drop k) : M[k]'(by omega) = S[k] := by
  have h1 := List.drop_eq_getElem_cons (l := M) (i := k) (by omega)
  have h2 := List.drop_eq_getElem_cons hk
  rw [h1, h2] at hd
  exact (List.cons.inj hd).1
theorem flat_take' (l : List Sp) (k : Nat) : (flat l).take (k * 2) = flat (l.take k) := by
  induction l generalizing k with
  | nil => simp [flat]
  | cons a r ih =>
    cases k with
    | zero => simp [flat]
    | succ k =>
      have e : ∀ (b : Sp) (q : List Sp), flat (b :: q) = .int .i64 b.1 :: .int .i64 b.2 :: flat q := fun _ _ => rfl
      rw [show (k + 1) * 2 = k * 2 + 1 + 1 by omega, e, List.take_succ_cons, List.take_succ_cons, ih k, List.take_succ_cons, e]
def LInv (S : List Sp) (w0 : World) (g c : Nat) (v i : Value) (wr : World) : Prop :=
  ∃ (k n : Nat) (acc M : List Sp), i = .int .i64 k ∧ k ≤ S.length ∧ Hid (mrgF (S.take k) = acc) ∧ n ≤ k ∧ Hid (acc.length = n) ∧ v = .slice (some ⟨g, 0, none⟩) n c ∧ Hid (M.length = S.length) ∧ Hid (M.take n = acc) ∧ Hid (M.drop k = S.drop k) ∧
    wr.ownsRow w0.heap.size 38 2 (.slice (some ⟨g, 0, none⟩) S.length c) S.length (flat M) ∧ Below w0.heap.size w0 wr
def MrgPost (w0 : World) (U : List Sp) (e : Ending) (w' : World) : Prop := ∃ v', e = .returned v' ∧ Below w0.heap.size w0 w' ∧ w'.ownsRow w0.heap.size 38 2 v' U.length (flat U)
set_option maxHeartbeats 8000000 in
theorem merge_any {K : Nat} (hst : StabOK K) (w0 : World) (g c : Nat) (l U : List Sp) (w : World) (hb0 : Below w0.heap.size w0 w) (h : w.ownsRow w0.heap.size 38 2 (.slice (some ⟨g, 0, none⟩) l.length c) l.length (flat l)) (hl : l.length ≤ K) (hU : mrgF (sortL l) = U) :
    Calls Try.prog 19 #[.slice (some ⟨g, 0, none⟩) l.length c] w (MrgPost w0 U) := by
  obtain ⟨i0, hi0, hz0', hz1, hz2⟩ := info_parts info_sl
  rcases own_form h with ⟨h1, _⟩ | ⟨g', c', h1, h2, h3, h4, h5, _⟩
  · cases h1
  cases h1
  have HO := hide h
  have HU2 := hide hU
  clear h hU
  go_enter Try.func19, Try.ntmps19
  go_wp2_with fail
  refine (hst g c w0.heap.size l _ HO.out hl).mono ?_
  clear hst
  rintro e w2 ⟨rfl, hg2, ho2⟩
  have hb2 : Below w0.heap.size w0 w2 := bl_grown hb0 hg2 (fun k hk => by cases hk; exact h2)
  have hS := sortL_len l
  obtain ⟨S, hSS⟩ : ∃ S, sortL l = S := ⟨_, rfl⟩
  rw [hSS] at hS ho2
  have hU3 := HU2.out
  rw [hSS] at hU3
  have HU3 := hide hU3
  have hlS : l.length = S.length := hS.symm
  rw [hlS] at h4 hl ⊢
  rw [hlS] at ho2
  clear HU2 hU3 HO
  unfold maxLen at h5
  clear hSS hS hlS hg2 h3 hb0
  go_wp2
  go_loopw [3, 13] (fun v i wr => LInv S w0 g c v i wr) (fun _ i _ => S.length - (intOf i).toNat)
  case atStart => exact ⟨0, 0, [], S, rfl, Nat.zero_le _, hide rfl, Nat.le_refl _, hide rfl, rfl, hide rfl, hide rfl, hide rfl, ho2, hb2⟩
  case round =>
    clear ho2 hb2
    obtain ⟨k, n, acc, M, rfl, hk, HU, hak, HAL, rfl, HML, HMT, HMD, hv, hbl⟩ := hrel
    by_cases hlt : k < S.length
    · have hget := lget M S k HML.out hlt HMD.out
      have hus := mrg_snoc S k hlt
      rw [HU.out] at hus
      obtain ⟨s, hs⟩ : ∃ s, S[k] = s := ⟨_, rfl⟩
      rw [hs] at hus hget
      have hMk : k < M.length := by rw [HML.out]; exact hlt
      have hfa := flat_at M k hMk
      rw [hget] at hfa
      have x1 : wr.cell? ⟨g, k * 2, none⟩ = some (.int .i64 s.1) := by rw [World.ownsRow.cellAt hv (k * 2) (by omega)]; exact hfa.1
      have x2 : wr.cell? ⟨g, k * 2 + 1, none⟩ = some (.int .i64 s.2) := by rw [World.ownsRow.cellAt hv (k * 2 + 1) (by omega)]; exact hfa.2
      have fin : ∀ (W : World) (i : Nat) (A : List Sp) (x : Sp), i ≤ k → M.take i = A → stepL acc s = A ++ [x] → W.ownsRow w0.heap.size 38 2 (.slice (some ⟨g, 0, none⟩) S.length c) S.length (flat (M.set i x)) → Below w0.heap.size w0 W → LInv S w0 g c (.slice (some ⟨g, 0, none⟩) (i + 1) c) (.int .i64 ((k : Int) + 1)) W := by
        intro W i A x hi hA hst ho hb
        have h1 := lstep M S A i k x hi HML.out hlt HMD.out hA
        have hAl : A.length = i := by rw [← hA, List.length_take, HML.out]; omega
        exact ⟨k + 1, i + 1, A ++ [x], M.set i x, by go_num, by omega, hide (by rw [hus, hst]), by omega, hide (by simp [hAl]), rfl, hide h1.2.2, hide h1.1, hide h1.2.1, ho, hb⟩
      have FIN := hide fin
      clear fin hus hs hfa hget hMk HMD HU
      have hbw : w0.heap.size ≤ wr.heap.size := hbl.size
      have hgl : g < wr.heap.size := by
        rcases own_form hv with ⟨h0, _⟩ | ⟨g', c', h0, _, h1, _⟩
        · cases h0
        · cases h0; exact h1
      have hML := HML.out
      rcases List.eq_nil_or_concat acc with rfl | ⟨a0, t, rfl⟩
      · obtain rfl : n = 0 := by have := HAL.out; simpa using this.symm
        have hd : decide ((0 : Int) ≤ -1) = false := by decide
        clear HAL
        have HV2 := hide (hv.alloc (.cells #[.int .i64 s.1, .int .i64 s.2] 38))
        have hbl2 := bl_alloc hbl (.cells #[.int .i64 s.1, .int .i64 s.2] 38)
        have HML2 := hide hML
        have hset := flat_set2 M 0 (by omega) s
        rw [Nat.zero_mul, Nat.zero_add] at hset
        have HSET := hide hset
        clear hv hML HMT hset
        go_wp2
        go_quiet (fail)
        go_wp2_with (at_builtin; (refine wpList_inplace ((wr.alloc (.cells #[.int .i64 s.1, .int .i64 s.2] 38)).drewN nq) rfl _ _ 22 rfl w0.heap.size 38 i0 Try.underlying22 hi0 hz1 g S.length c 0 (flat M) rfl HV2.out (by omega) h4 (.int .i64 s.1) (.int .i64 s.2) rfl rfl (by show Value.slice (some ⟨wr.heap.size + 1, 0, none⟩) 1 1 = _; simp) ?_); intro w4 hv4 hg4)
        have hbl4 : Below w0.heap.size w0 w4 := bl_grown (bl_drewN hbl2 nq) hg4 (fun q hq => by cases hq; exact h2)
        refine ⟨?_, by first | (simp [intOf]; done) | (simp [intOf]; omega)⟩
        refine FIN.out _ 0 [] s (by omega) rfl (stL_nil s) ?_ hbl4
        rw [← HSET.out]; exact hv4
      · rw [List.concat_eq_append] at *
        have hlen : (a0 ++ [t]).length = a0.length + 1 := by simp
        obtain rfl : n = a0.length + 1 := by have := HAL.out; rw [hlen] at this; exact this.symm
        have hMT := HMT.out
        clear HAL
        have hMm : M[a0.length]'(by omega) = t := by
          have h0 : (M.take (a0.length + 1))[a0.length]'(by simp; omega) = M[a0.length]'(by omega) := List.getElem_take
          rw [← h0]
          simp only [hMT]
          simp
        have hM0 : M.take a0.length = a0 := by
          have h0 := congrArg (List.take a0.length) hMT
          rw [List.take_take, Nat.min_eq_left (by omega)] at h0
          rw [h0]; simp
        have hfm := flat_at M a0.length (by omega)
        rw [hMm] at hfm
        have hd : decide ((0 : Int) ≤ (a0.length : Int)) = true := by simp
        have gln : decide (a0.length < a0.length + 1) = true := by simp
        have hv2 := hv.alloc (.cells #[.int .i64 s.1, .int .i64 s.2] 38)
        have hbl2 := bl_alloc hbl (.cells #[.int .i64 s.1, .int .i64 s.2] 38)
        have d1 : (wr.alloc (.cells #[.int .i64 s.1, .int .i64 s.2] 38)).cell? ⟨wr.heap.size, 0, none⟩ = some (.int .i64 s.1) := by go_simp
        have d2 : (wr.alloc (.cells #[.int .i64 s.1, .int .i64 s.2] 38)).cell? ⟨wr.heap.size, 1, none⟩ = some (.int .i64 s.2) := by go_simp
        have y1 : (wr.alloc (.cells #[.int .i64 s.1, .int .i64 s.2] 38)).cell? ⟨g, a0.length * 2, none⟩ = some (.int .i64 t.1) := by rw [World.ownsRow.cellAt hv2 (a0.length * 2) (by omega)]; exact hfm.1
        have y2 : (wr.alloc (.cells #[.int .i64 s.1, .int .i64 s.2] 38)).cell? ⟨g, a0.length * 2 + 1, none⟩ = some (.int .i64 t.2) := by rw [World.ownsRow.cellAt hv2 (a0.length * 2 + 1) (by omega)]; exact hfm.2
        have n1 := World.block_lt_of_cell? _ _ d1
        have n2 := World.block_lt_of_cell? _ _ y1
        obtain ⟨kt, hkt⟩ : ∃ kt, ky (t.1, t.2) = kt := ⟨_, rfl⟩
        obtain ⟨ks, hks⟩ : ∃ ks, ky (s.1, s.2) = ks := ⟨_, rfl⟩
        have HA := hide (fun W => span_b t.1 t.2 kt hkt W)
        have HB := hide (fun W => span_b s.1 s.2 ks hks W)
        have hset2 := flat_set2 M a0.length (by omega) (covL t s)
        have hset3 := fun h9 => flat_set2 M (a0.length + 1) h9 s
        have HM := hide (And.intro hM0 hMT)
        have HS2 := hide hset2
        have HS3 := hide hset3
        have HLEN := hide hlen
        have HML2 := hide hML
        have hMb : a0.length + 1 ≤ S.length := by omega
        clear hset2 hset3 hv hfm hMm hM0 hMT HMT hlen
        rcases hr : touch kt ks with _ | _
        · have HT := hide (fun W => touch_b kt ks false hr W)
          have hrr : touch (ky t) (ky s) = false := by
            have e1 : ky t = kt := hkt
            have e2 : ky s = ks := hks
            rw [e1, e2]; exact hr
          have HST := hide (stL_new a0 t s hrr)
          clear hr hrr hkt hks hML
          go_wp2
          generalize (wr.alloc (.cells #[.int .i64 s.1, .int .i64 s.2] 38)) = W1 at *
          refine wp_region_later (by kernel_rfl) (by kernel_rfl) ?_
          repeat (go_big_quiet_step (first
            | (go_at_call_of 16 (Value.agg #[Value.int IntKind.i64 t.1, Value.int IntKind.i64 t.2]); exact later_call (HA.out _))
            | (go_at_call_of 16 (Value.agg #[Value.int IntKind.i64 s.1, Value.int IntKind.i64 s.2]); exact later_call (HB.out _))
            | (go_at_call 30; exact later_call (HT.out _))
            | exact rfl))
          refine wpQuiet_nil ?_
          rintro w9 ⟨⟨_, hb9⟩, rfl⟩
          have d1 := cell_later hb9 d1
          have d2 := cell_later hb9 d2
          have y1 := cell_later hb9 y1
          have y2 := cell_later hb9 y2
          have hv9 := own_below hv2 hb9
          have hbl9 := bl_trans hbl2 hb9
          clear hv2 hbl2 hb9 n1 n2
          have HV9 := hide hv9
          have hnS : a0.length + 1 < S.length := by omega
          clear hv9 y1 y2
          go_wp2_with (at_builtin; (refine wpList_inplace w9 rfl _ _ 22 rfl w0.heap.size 38 i0 Try.underlying22 hi0 hz1 g S.length c (a0.length + 1) (flat M) rfl HV9.out hnS h4 (.int .i64 s.1) (.int .i64 s.2) rfl rfl rfl ?_); intro w4 hv4 hg4)
          have hbl4 : Below w0.heap.size w0 w4 := bl_grown hbl9 hg4 (fun q hq => by cases hq; exact h2)
          refine ⟨?_, by first | (simp [intOf]; done) | (simp [intOf]; omega)⟩
          refine FIN.out _ (a0.length + 1) (a0 ++ [t]) s (by omega) HM.out.2 HST.out ?_ hbl4
          rw [← HS3.out (by have := HML2.out; omega)]; exact hv4
        · have HT := hide (fun W => touch_b kt ks true hr W)
          have hrr : touch (ky t) (ky s) = true := by
            have e1 : ky t = kt := hkt
            have e2 : ky s = ks := hks
            rw [e1, e2]; exact hr
          have HST := hide (stL_on a0 t s hrr)
          have HC := hide (fun W => cover_s t s W)
          clear hr hrr hkt hks hML
          go_wp2
          generalize (wr.alloc (.cells #[.int .i64 s.1, .int .i64 s.2] 38)) = W1 at *
          refine wp_region_later (by kernel_rfl) (by kernel_rfl) ?_
          repeat (go_big_quiet_step (first
            | (go_at_call_of 16 (Value.agg #[Value.int IntKind.i64 t.1, Value.int IntKind.i64 t.2]); exact later_call (HA.out _))
            | (go_at_call_of 16 (Value.agg #[Value.int IntKind.i64 s.1, Value.int IntKind.i64 s.2]); exact later_call (HB.out _))
            | (go_at_call 30; exact later_call (HT.out _))
            | exact rfl))
          refine wpQuiet_nil ?_
          rintro w9 ⟨⟨_, hb9⟩, rfl⟩
          have d1 := cell_later hb9 d1
          have d2 := cell_later hb9 d2
          have y1 := cell_later hb9 y1
          have y2 := cell_later hb9 y2
          have hv9 := own_below hv2 hb9
          have hbl9 := bl_trans hbl2 hb9
          clear hv2 hbl2 hb9 n1 n2
          have hlt2 : a0.length * 2 + 1 < S.length * 2 := by omega
          have HV9 := hide hv9
          have HB9 := hide hbl9
          clear hv9 hbl9
          generalize covL t s = cv at *
          go_wp2
          go_region_with (go_at_call 31; (with_reducible refine (HC.out _).mono ?_); rintro e w10 ⟨rfl, hb10⟩; have hbz : Below w9.heap.size w9 w10 := bl_trans (by repeat (first | exact bl_refl _ | refine bl_drew ?_)) hb10; have y1 := cell_later hbz y1; have y2 := cell_later hbz y2; have yf1 := World.ownsRow.frozenAt (own_below HV9.out hbz) (a0.length * 2); have yf2 := World.ownsRow.frozenAt (own_below HV9.out hbz) (a0.length * 2 + 1); clear hb10)
          all_goals
            go_wp2
            have ho10 := own_below HV9.out hbz
            have hs1 := (World.ownsRow.stored ho10 (a0.length * 2) (.int .i64 cv.1)).1
            have hs2 := (World.ownsRow.stored hs1 (a0.length * 2 + 1) (.int .i64 cv.2)).1
            rw [HS2.out] at hs2
            have hbs := bl_set (bl_set (bl_trans HB9.out hbz) (p := ⟨g, a0.length * 2, none⟩) h2 (.int .i64 cv.1)) (p := ⟨g, a0.length * 2 + 1, none⟩) h2 (.int .i64 cv.2)
            refine ⟨?_, by first | (simp [intOf]; done) | (simp [intOf]; omega)⟩
            first
              | exact FIN.out _ a0.length a0 _ (by omega) HM.out.1 HST.out hs2 hbs
              | exact FIN.out _ a0.length a0 _ (by omega) HM.out.1 HST.out (World.ownsRow.drew hs2) (bl_drew hbs)
    · obtain rfl : k = S.length := by omega
      have hU4 := HU.out
      rw [List.take_length, HU3.out] at hU4
      subst hU4
      have hUl := mrg_le S S.length
      rw [List.take_length, HU3.out] at hUl
      obtain rfl : n = U.length := HAL.out.symm
      have htk : (flat M).take (U.length * 2) = flat U := by
        have h0 := HMT.out
        rw [flat_take', h0]
      have HO := hide (own_front hv hUl htk)
      clear hv HU HMT HMD HML hlt htk
      go_wp2
      go_ret
      exact ⟨_, rfl, hbl, HO.out⟩
end Go.Proofs.Ytjkjgfgblfioeaa
