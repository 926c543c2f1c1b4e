/- Through all that is kept it goes back, each time by what was told forth, and then forth again to where it was. Conditions: none beyond the form's own. -/
import Derived.Test.YtmckmebkoiglfaaRows
import Derived.Test.YtmckmebkoiglfaaArgs
import Derived.Test.YtmckmebkoiglfaaPastB
import Derived.Test.YtmckmebkoiglfaaPastS
import Derived.Test.YtmckmebkoiglfaaLow
namespace Go.Proofs.Ytmckmebkoiglfaa.pastWalks
open Go.Proofs.Ytmckmebkoiglfaa
open Go.ChangeShapes Go.WideShapes Go.ChangeAt Go.RowKit Go.Deep
open Go.ChangeMaps (open_string shut_string)
set_option linter.unusedVariables false

theorem own : ownKnob Try.prog.godebug = none := by kernel_rfl
theorem laidOut : laidOutB Try.prog = true := by kernel_rfl
-- opt:8000000
def gz (zs : List ByteArray) (i : Nat) : ByteArray := zs.getD i ByteArray.empty
/-- What is kept when so many were pushed: the last ones. -/
def kept (zs : List ByteArray) (n k : Nat) : List ByteArray := (zs.take k).drop (k - n)
theorem kept_push (zs : List ByteArray) (n k : Nat) (hn : 1 ≤ n) (h : k < zs.length) : (if n < (kept zs n k).length + 1 then (kept zs n k ++ [gz zs k]).drop 1 else kept zs n k ++ [gz zs k]) = kept zs n (k + 1) := by
  have hl : (kept zs n k).length = min k n := by unfold kept; simp; omega
  have ht : zs.take (k + 1) = zs.take k ++ [gz zs k] := by
    rw [List.take_succ_eq_append_getElem h]; simp [gz, List.getD, h]
  have htl : (zs.take k).length = k := by simp; omega
  rw [hl]
  unfold kept
  rw [ht]
  by_cases hk : n ≤ k
  · have hm : n < min k n + 1 := by omega
    rw [if_pos hm, ← List.drop_append_of_le_length (by omega), List.drop_drop]
    congr 1
    omega
  · have hm : ¬ n < min k n + 1 := by omega
    rw [if_neg hm, ← List.drop_append_of_le_length (by omega)]
    congr 1
    omega
theorem kept_len (zs : List ByteArray) (n k : Nat) (h : k ≤ zs.length) : (kept zs n k).length = min k n := by unfold kept; simp; omega
theorem kept_pop (zs : List ByteArray) (n K i : Nat) (h : K ≤ zs.length) (hi : i < min K n) : (kept zs n K).take (min K n - i) = (kept zs n K).take (min K n - (i + 1)) ++ [gz zs (K - i - 1)] := by
  have hl := kept_len zs n K h
  have e : min K n - i = (min K n - (i + 1)) + 1 := by omega
  rw [e, List.take_succ_eq_append_getElem (by omega)]
  congr 1
  unfold kept
  rw [List.getElem_drop, List.getElem_take]
  have e2 : K - n + (min K n - (i + 1)) = K - i - 1 := by omega
  simp only [e2]
  simp [gz, List.getD, show K - i - 1 < zs.length by omega]
def lr (zs : List ByteArray) (K i : Nat) : List ByteArray := (List.range i).map fun j => gz zs (K - j)
theorem lr_succ (zs : List ByteArray) (K i : Nat) : lr zs K (i + 1) = lr zs K i ++ [gz zs (K - i)] := by
  unfold lr; rw [List.range_succ, List.map_append]; rfl
theorem lr_len (zs : List ByteArray) (K i : Nat) : (lr zs K i).length = i := by simp [lr]
theorem newS_at (n : Nat) (a : Int) (w : World) (ha : (n : Int) = a) (h1 : 1 ≤ n) (h2 : n ≤ 100) :
    Calls Try.prog 14 #[.int .i64 a] w fun e w' => e = .returned (.tuple #[.pointer (some ⟨w.heap.size, 0, none⟩), .int .i64 0]) ∧ Below w.heap.size w w' ∧ w.heap.size < w'.heap.size ∧ PastS w' w.heap.size w.heap.size n [] [] := by
  subst ha; exact newS_any n w h1 h2
theorem low_at (x : Int) (n : Nat) (a : Int) (w : World) (ha : (n : Int) = a) (hn : 0 < n) (hn' : n < 1000000000) :
    Calls Try.prog 8 #[.int .i64 x, .int .i64 a] w fun e w' => e = .returned (.int .i64 (lowN x n)) ∧ w = w' := by
  subst ha; exact low_any x n w hn hn'
set_option maxRecDepth 100000 in
set_option maxHeartbeats 8000000 in
theorem walk (a0 : Option Addr) (len0 cap0 : Nat) (z0 : List ByteArray) (a1 : Int) (a2 : Int) (w : World) (w0 : IsStrs w a0 len0 cap0 z0) (w1 : (Lit.int .i64 a1).wf = true) (w2 : (Lit.int .i64 a2).wf = true) :
    Calls Try.prog 4 #[.slice a0 len0 cap0, .int .i64 a1, .int .i64 a2] w fun e w' => e = .returned (.bool true) ∧ Below w.heap.size w w' := by
  by_cases hs : 0 < len0 ∧ len0 ≤ 120
  · obtain ⟨hs1, hs2⟩ := hs
    obtain ⟨bx, off, rfl, hz1, hz2, hz3, hcs⟩ := strs_cell w0 hs1
    obtain ⟨K, rfl⟩ : ∃ K, len0 = K + 1 := ⟨len0 - 1, by omega⟩
    obtain ⟨zs, hzs⟩ : ∃ zs, z0.take (K + 1) = zs := ⟨_, rfl⟩
    have hzl : zs.length = K + 1 := by rw [← hzs]; simp; omega
    have hcz : ∀ i, i < K + 1 → w.cell? ⟨bx, off + i, none⟩ = some (.string (gz zs i)) := fun i hi => by
      rw [hcs i (by omega), ← hzs, gz, getD_take z0 (K + 1) i ByteArray.empty hi]
    have HCZ := hide hcz
    have HZL := hide hzl
    unfold maxLen at hz3
    have e0 : (((K : Int) + 1) == 0) = false := by simp; omega
    have e1 : decide ((120 : Int) < (K : Int) + 1) = false := by simp; omega
    have hq := lowN_lt a1 100 (by omega)
    clear hcs hcz hzs hzl w0
    go_enter Try.func4, Try.ntmps4
    go_wp2_with fail
    refine (low_any a1 100 _ (by omega) (by omega)).mono ?_
    rintro e w1 ⟨rfl, rfl⟩
    generalize lowN a1 100 = q at *
    go_wp2_with fail
    refine (newS_at (q + 1) _ _ (by omega) (by omega) (by omega)).mono ?_
    rintro e w1 ⟨rfl, hb1, hs1', hp1⟩
    have hk0 : kept zs (q + 1) 0 = [] := by simp [kept]
    have hp1' : PastS w1 w.heap.size w.heap.size (q + 1) (kept zs (q + 1) 0) [] := by rw [hk0]; exact hp1
    clear hk0 hp1
    go_wp2
    go_loopw [10] (fun i wr => ∃ k : Nat, i = .int .i64 k ∧ k ≤ K ∧ PastS wr w.heap.size w.heap.size (q + 1) (kept zs (q + 1) k) [] ∧ Below w.heap.size w wr)
      (fun i _ => K - (intOf i).toNat)
    case atStart => exact ⟨0, rfl, Nat.zero_le _, hp1', hb1⟩
    case round =>
      obtain ⟨k, rfl, hk, hp, hbl⟩ := hrel
      have hsz : w.heap.size ≤ wr.heap.size := hbl.size
      by_cases hlt : k < K
      · have hc := cell_later hbl (HCZ.out k (by omega))
        have HNX := hide (kept_push zs (q + 1) k (by omega) (by rw [HZL.out]; omega))
        have hle := kept_len zs (q + 1) k (by rw [HZL.out]; omega)
        have hle2 : (kept zs (q + 1) k).length ≤ k := by omega
        have HP := hide hp
        clear hp hp1' hle
        go_wp2_with fail
        refine (pushS_any _ w.heap.size (q + 1) (kept zs (q + 1) k) [] (gz zs k) _ HP.out hsz (by omega)).mono ?_
        rintro e w2 ⟨rfl, hb2, hp2⟩
        rw [HNX.out] at hp2
        have B2 := bl_low hbl hb2
        go_wp2
        refine ⟨?_, by first | (simp [intOf]; done) | (simp [intOf]; omega)⟩
        first
          | exact ⟨k + 1, by go_num, by omega, hp2, B2⟩
          | ((repeat apply Exists.intro); exact ⟨⟨k + 1, by go_num, by omega, hp2, B2⟩, rfl⟩)
      · obtain rfl : k = K := by omega
        have HP := hide hp
        clear hp hp1' hlt
        obtain ⟨M, hM⟩ : ∃ M, min k (q + 1) = M := ⟨_, rfl⟩
        have hMk : M ≤ k := by omega
        have hKL := kept_len zs (q + 1) k (by rw [HZL.out]; omega)
        have hpop := kept_pop zs (q + 1) k
        rw [hM] at hKL hpop
        have HPOP := hide hpop
        have HKL := hide hKL
        have hck := cell_later hbl (HCZ.out k (by omega))
        clear hpop hKL
        go_wp2_with fail
        refine (low_at a2 (M + 1) _ _ (by omega) (by omega) (by omega)).mono ?_
        rintro e w2 ⟨rfl, rfl⟩
        have hkm := lowN_lt a2 (M + 1) (by omega)
        generalize lowN a2 (M + 1) = kk at *
        have hMi : min ((1 : Int) + (q : Int)) (k : Int) = (M : Int) := by omega
        have HMI := hide hMi
        clear hM hMi
        have hM0 : (kept zs (q + 1) k).take (M - 0) = kept zs (q + 1) k := by rw [Nat.sub_zero, ← HKL.out, List.take_length]
        have HM0 := hide hM0
        clear hM0
        go_wp2
        go_loopw [12, 13, 14] (fun s12 s13 i wr => ∃ (i' t : Nat), i = .int .i64 i' ∧ i' ≤ kk ∧ t + i' = k ∧ s12 = .int .i64 t ∧ s13 = .string (gz zs t) ∧ PastS wr w.heap.size w.heap.size (q + 1) ((kept zs (q + 1) k).take (M - i')) (lr zs k i') ∧ Below w.heap.size w wr)
          (fun _ _ i _ => kk - (intOf i).toNat)
        case atStart => exact ⟨0, k, rfl, Nat.zero_le _, rfl, rfl, rfl, by rw [HM0.out]; exact HP.out, hbl⟩
        case round =>
          obtain ⟨i', t, rfl, hi, hsum, rfl, rfl, hp, hbl⟩ := hrel
          have hsz : w.heap.size ≤ wr.heap.size := hbl.size
          by_cases hlt : i' < kk
          · obtain ⟨t', rfl⟩ : ∃ t', t = t' + 1 := ⟨t - 1, by omega⟩
            have hpp := HPOP.out i' (by rw [HZL.out]; omega) (by omega)
            have e1 : k - i' - 1 = t' := by omega
            rw [e1] at hpp
            rw [hpp] at hp
            have hls := lr_succ zs k i'
            have e2 : k - i' = t' + 1 := by omega
            rw [e2] at hls
            have hml : ((kept zs (q + 1) k).take (M - (i' + 1))).length = M - (i' + 1) := by rw [List.length_take, HKL.out]; omega
            have HP2 := hide hp
            have HLS := hide hls
            have HML := hide hml
            have hll := lr_len zs k i'
            have hll2 : (lr zs k i').length ≤ 1000 := by omega
            have hc := cell_later hbl (HCZ.out t' (by omega))
            clear hp hls hml e1 e2 hpp hll
            go_wp2_with fail
            refine (backS_any _ w.heap.size (q + 1) (M - (i' + 1)) ((kept zs (q + 1) k).take (M - (i' + 1))) (lr zs k i') (gz zs t') (gz zs (t' + 1)) _ HP2.out HML.out hsz (by omega) hll2).mono ?_
            rintro e w3 ⟨rfl, hb3, hp3⟩
            rw [← HLS.out] at hp3
            have B3 := bl_low hbl hb3
            have hc3 := cell_later B3 (HCZ.out t' (by omega))
            have HP3 := hide hp3
            clear hp3 hb3 hc
            go_wp2
            refine ⟨?_, by first | (simp [intOf]; done) | (simp [intOf]; omega)⟩
            first
              | exact ⟨i' + 1, t', by go_num, by omega, by omega, rfl, rfl, HP3.out, B3⟩
              | ((repeat apply Exists.intro); exact ⟨⟨i' + 1, t', by go_num, by omega, by omega, rfl, rfl, HP3.out, B3⟩, rfl⟩)
          · obtain rfl : i' = kk := by omega
            have HP2 := hide hp
            clear hp hlt
            go_wp2
            go_loopw [12, 13, 17] (fun s12 s13 c wr => ∃ (c' i t : Nat), c = .int .i64 c' ∧ c' + i = i' ∧ t + i = k ∧ s12 = .int .i64 t ∧ s13 = .string (gz zs t) ∧ PastS wr w.heap.size w.heap.size (q + 1) ((kept zs (q + 1) k).take (M - i)) (lr zs k i) ∧ Below w.heap.size w wr)
              (fun _ _ c _ => i' - (intOf c).toNat)
            case atStart => exact ⟨0, i', t, rfl, by omega, hsum, rfl, rfl, HP2.out, hbl⟩
            case round =>
              obtain ⟨c', i, t2, rfl, hci, hsum2, rfl, rfl, hp, hbl⟩ := hrel
              have hsz : w.heap.size ≤ wr.heap.size := hbl.size
              clear HP2
              by_cases hlt : c' < i'
              · obtain ⟨j, rfl⟩ : ∃ j, i = j + 1 := ⟨i - 1, by omega⟩
                have hpp := HPOP.out j (by rw [HZL.out]; omega) (by omega)
                have e1 : k - j - 1 = t2 := by omega
                have e2 : k - j = t2 + 1 := by omega
                rw [e1] at hpp
                have hls := lr_succ zs k j
                rw [e2] at hls
                rw [hls] at hp
                have hml : (lr zs k j).length = j := lr_len zs k j
                have hle : ((kept zs (q + 1) k).take (M - (j + 1))).length ≤ 1000 := by rw [List.length_take]; omega
                have HP2 := hide hp
                have HPP := hide hpp
                have HML := hide hml
                have hc := cell_later hbl (HCZ.out (t2 + 1) (by omega))
                clear hp hls hml e1 e2 hpp
                go_wp2_with fail
                refine (forthS_any _ w.heap.size (q + 1) j (lr zs k j) ((kept zs (q + 1) k).take (M - (j + 1))) (gz zs (t2 + 1)) (gz zs t2) _ HP2.out HML.out hsz (by omega) hle).mono ?_
                rintro e w3 ⟨rfl, hb3, hp3⟩
                rw [← HPP.out] at hp3
                have B3 := bl_low hbl hb3
                have hc3 := cell_later B3 (HCZ.out (t2 + 1) (by omega))
                have HP3 := hide hp3
                clear hp3 hb3 hc
                go_wp2
                refine ⟨?_, by first | (simp [intOf]; done) | (simp [intOf]; omega)⟩
                first
                  | exact ⟨c' + 1, j, t2 + 1, by go_num, by omega, by omega, by go_num, rfl, HP3.out, B3⟩
                  | ((repeat apply Exists.intro); exact ⟨⟨c' + 1, j, t2 + 1, by go_num, by omega, by omega, by go_num, rfl, HP3.out, B3⟩, rfl⟩)
              · obtain rfl : i = 0 := by omega
                obtain rfl : t2 = k := by omega
                rw [HM0.out] at hp
                have hp' : PastS wr w.heap.size w.heap.size (q + 1) (kept zs (q + 1) t2) [] := hp
                have HP2 := hide hp'
                clear hp hp' hlt
                go_wp2_with fail
                refine (forthS_none _ w.heap.size (q + 1) (kept zs (q + 1) t2) (gz zs t2) _ HP2.out).mono ?_
                rintro e w3 ⟨rfl, hb3, hp3⟩
                have B3 := bl_low hbl hb3
                have HP3 := hide hp3
                clear hp3 hb3
                go_wp2_with fail
                refine (manyS_any _ w.heap.size (q + 1) (kept zs (q + 1) t2) [] _ HP3.out).mono ?_
                rintro e w4 ⟨rfl, hb4, hp4⟩
                rw [HKL.out]
                have B4 := bl_low B3 hb4
                have hc4 := cell_later B4 (HCZ.out t2 (by omega))
                have hmm := HMI.out
                have hme : ((M : Int) == min ((1 : Int) + (q : Int)) (t2 : Int)) = true := by rw [hmm]; simp
                clear hp4 hb4 hmm
                go_wp2_with fail
                refine (awake29_any _).mono ?_
                rintro e w5 ⟨rfl, hb5⟩
                go_wp2
                go_ret
                exact ⟨rfl, bl_trans B4 hb5⟩
  · have hc : len0 = 0 ∨ 120 < len0 := by omega
    rcases hc with rfl | hc
    · go_enter Try.func4, Try.ntmps4
      go_wp2_with (go_at_call 7; refine (awake29_any _).mono ?_; rintro e w1 ⟨rfl, hb1⟩)
      go_ret
      exact ⟨rfl, hb1⟩
    · have e0 : ((len0 : Int) == 0) = false := by simp; omega
      have e1 : decide ((120 : Int) < (len0 : Int)) = true := by simp; omega
      go_enter Try.func4, Try.ntmps4
      go_wp2_with (go_at_call 7; refine (awake29_any _).mono ?_; rintro e w1 ⟨rfl, hb1⟩)
      go_ret
      exact ⟨rfl, hb1⟩

set_option maxRecDepth 100000 in
theorem lifted (os : Os) (started : os.Started) (H : Type) (enc : TypeId × Value → H) :
    ReturnsInHanded {} Try.checked os 4 .any (Rows.pastWalksSpec.pre6 enc Try.prog Try.f4 Rows.pastWalksRow.domain false) (Rows.pastWalksSpec.post enc Try.prog Try.f4 false true false false) := by
  refine returnsInHanded_of_change (C := Try.checked) own started (by kernel_rfl) Try.func4
    (ChangeSpec.witness6 (enc := enc) (C := Try.checked) false ⟨#[], #[.slice none 0 0, .int .i64 0, .int .i64 0], []⟩ 8 (by kernel_rfl) (by kernel_rfl) (by kernel_rfl) (by kernel_rfl)) ?_
  intro W base args ds gs before hval0 hW hcnd _
  have hval : ∀ (j : Nat) t v, Try.f4.params[j]? = some t → args[j]? = some v → Value.okWide Try.prog W .any base t v := hval0
  have hW' := hW
  obtain ⟨p, q, hA0, hV, rfl, hfz, hnd⟩ := hW
  have hA : DataW.TrodAll enc Try.prog W 0 (fun _ => true) true Try.f4.params.toList args.toList ds p := hA0
  rw [Try.params4] at hA hval
  obtain ⟨v0, vs0, d0, ds0, p0, q0, hargs, rfl, rfl, h0, r0⟩ := trodAll_cons hA
  obtain ⟨v1, vs1, d1, ds1, p1, q1, rfl, rfl, rfl, h1, r1⟩ := trodAll_cons r0
  obtain ⟨v2, vs2, d2, ds2, p2, q2, rfl, rfl, rfl, h2, r2⟩ := trodAll_cons r1
  obtain ⟨rfl, rfl, rfl⟩ := trodAll_nil r2
  obtain rfl : args = #[v0, v1, v2] := by cases args; simp_all
  obtain ⟨rfl, rfl⟩ := trodVars_none hV
  have k0 := h0
  have lt0 : ∀ x ∈ p0, x.block < W.heap.size := by obtain ⟨m, hm⟩ := k0; exact DataW.trod_lt m _ _ _ hm
  obtain ⟨a0, len0, cap0, rfl⟩ := okWide_slice Try.underlying35 (hval 0 35 v0 rfl rfl)
  obtain ⟨z0, w0⟩ : ∃ zs, IsStrs W a0 len0 cap0 zs := by
    obtain ⟨fuel, hf⟩ := h0
    rcases open_strings Try.underlying35 Try.underlying9 (by kernel_rfl) hf with ⟨hcs, _⟩ | ⟨x, l, c, zs, hcs, _, hl, hm, hz, _, hcell, hwz⟩
    · simp [Value.cells] at hcs
      obtain ⟨rfl, rfl, rfl⟩ := hcs
      exact ⟨[], .inl ⟨rfl, rfl, rfl, rfl⟩⟩
    · simp [Value.cells] at hcs
      obtain ⟨rfl, rfl, rfl⟩ := hcs
      exact ⟨zs, .inr ⟨_, rfl, hl, hm, by simpa using hz, hcell, hwz⟩⟩
  have k1 := h1
  have lt1 : ∀ x ∈ p1, x.block < W.heap.size := by obtain ⟨m, hm⟩ := k1; exact DataW.trod_lt m _ _ _ hm
  obtain ⟨a1, rfl, hd1, hp1, w1⟩ := open_int Try.underlying3 (hval 1 3 v1 rfl rfl) h1
  have k2 := h2
  have lt2 : ∀ x ∈ p2, x.block < W.heap.size := by obtain ⟨m, hm⟩ := k2; exact DataW.trod_lt m _ _ _ hm
  obtain ⟨a2, rfl, hd2, hp2, w2⟩ := open_int Try.underlying3 (hval 2 3 v2 rfl rfl) h2
  clear hA0 hval0
  refine (walk a0 len0 cap0 z0 a1 a2 W w0 w1 w2).mono fun e W' ⟨he, bel⟩ => ?_
  subst he
  exact ⟨_, rfl, _, _, _, [], _, [], hW', trodAll_mk1 (shut_bool Try.underlying4 _), (trodAll_cons_mk (Below.trod laidOut (by kernel_rfl) (of_decide_eq_true (by kernel_rfl)) k0 bel lt0) (trodAll_cons_mk (Below.trod laidOut (by kernel_rfl) (of_decide_eq_true (by kernel_rfl)) k1 bel lt1) (trodAll_cons_mk (Below.trod laidOut (by kernel_rfl) (of_decide_eq_true (by kernel_rfl)) k2 bel lt2) trodAll_mk0))), rfl, bel.frame _, fun h => by cases h⟩

theorem over : Rows.pastWalksRow.holds Try.pinned (OpenSpec.ofChange Rows.pastWalksSpec) :=
  OpenClaim.holds_of_wide 4 Try.f4 rfl rfl rfl rfl rfl rfl rfl ⟨rfl, rfl, rfl, rfl, rfl⟩ rfl rfl rfl rfl rfl (by kernel_rfl) Try.func4 (by kernel_rfl)
    (of_decide_eq_true (by kernel_rfl)) (by unfold Func.isWrapper; first | (rw [if_pos (by decide +kernel)]; kernel_rfl) | (rw [if_neg (by decide +kernel)]; exact ⟨rfl, rfl⟩))
    (fun os started H enc _ => lifted os started H enc)

theorem proved : Rows.PastWalksSaid := over
end Go.Proofs.Ytmckmebkoiglfaa.pastWalks
