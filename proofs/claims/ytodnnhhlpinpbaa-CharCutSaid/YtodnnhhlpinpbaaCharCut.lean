/- A text cut at one of its places has the characters of both parts; cut elsewhere it hasn't. Conditions: none beyond the form's own. -/
import Derived.Test.YtodnnhhlpinpbaaRows
import Derived.Test.YtodnnhhlpinpbaaArgs
import Derived.Test.YtodnnhhlpinpbaaCharH
import Derived.Test.YtodnnhhlpinpbaaLow
import Derived.Deep.RegionHeld3
import Derived.Deep.DrawnRows
import Derived.Test.YtodnnhhlpinpbaaApp
namespace Go.Proofs.Ytodnnhhlpinpbaa.charCut
open Go.Proofs.Ytodnnhhlpinpbaa
open Go.ChangeShapes Go.WideShapes Go.ChangeAt Go.RowKit Go.Deep
open Go.ChangeMaps (open_string shut_string)
set_option linter.unusedVariables false

theorem own : ownKnob Try.prog.godebug = none := by kernel_rfl
theorem laidOut : laidOutB Try.prog = true := by kernel_rfl
-- opt:8000000
attribute [local go_sem ↓] Go.wp_at_zero Go.wp_at_succ
theorem chGo_many (l acc : List UInt8) : (chGo l acc).length ≤ l.length + 1 := by
  induction l generalizing acc with
  | nil => simp [chGo]
  | cons c t ih =>
    rw [chGo, List.length_cons]
    split
    · have := ih (acc ++ [c]); omega
    · have := ih [c]; rw [List.length_cons]; omega
theorem split_many (l : List UInt8) : (splitL l).length ≤ l.length := by
  cases l with
  | nil => exact Nat.le_refl _
  | cons c r => rw [splitL, List.length_cons]; exact chGo_many r [c]
theorem pl_many (l : List UInt8) (i : Nat) : (plGo l i).length ≤ l.length + 1 := by
  induction l generalizing i with
  | nil => simp [plGo]
  | cons c t ih =>
    rw [plGo, List.length_cons]
    have := ih (i + 1)
    split
    · rw [List.length_cons]; omega
    · omega
theorem zs_map (a b : List ByteArray) : (a = b) ↔ a.map (fun z => z.data.toList) = b.map (fun z => z.data.toList) := by
  constructor
  · rintro rfl; rfl
  · intro h
    induction a generalizing b with
    | nil => cases b with
      | nil => rfl
      | cons y r => simp at h
    | cons x t ih =>
      cases b with
      | nil => simp at h
      | cons y r =>
        simp only [List.map_cons, List.cons.injEq] at h
        rw [ih r h.2, ByteArray.ext (Array.ext' h.1)]
theorem textsb_any (v u : Value) (l k : List ByteArray) (r : Bool) (w : World) (h : StAt w v l) (g : StAt w u k) (hl : l.length ≤ 1000) (hk : k.length ≤ 1000) (e : decide (l = k) = r) :
    Calls Try.prog 10 #[v, u] w fun e w' => e = .returned (.bool r) ∧ Below w.heap.size w w' :=
  (texts_any v u l k w h g hl hk).mono fun _ _ ⟨he, n, hw⟩ => ⟨by rw [he, e], by rw [hw]; exact bl_drewN (bl_refl w) n⟩
theorem mem_next (ps : List Nat) (i k : Nat) (h : i < ps.length) : decide (k ∈ ps.take (i + 1)) = (decide (k ∈ ps.take i) || decide (ps[i] = k)) := by
  rw [List.take_succ_eq_append_getElem h, Bool.eq_iff_iff]
  simp only [List.mem_append, List.mem_singleton, decide_eq_true_iff, Bool.or_eq_true]
  constructor
  · rintro (h1 | h1)
    · exact .inl h1
    · exact .inr h1.symm
  · rintro (h1 | h1)
    · exact .inl h1
    · exact .inr h1.symm
set_option maxRecDepth 100000 in
set_option maxHeartbeats 8000000 in
theorem walk (a0 : ByteArray) (a1 : Int) (w : World) (w0 : a0.size ≤ maxLen) (w1 : (Lit.int .i64 a1).wf = true) :
    Calls Try.prog 5 #[.string a0, .int .i64 a1] w fun e w' => e = .returned (.bool true) ∧ Below w.heap.size w w' := by
  by_cases hs : a0.size ≤ 150
  · have hkl := lowN_lt a1 (a0.size + 1) (by omega)
    go_enter Try.func5, Try.ntmps5
    go_wp2_with fail
    refine (low_any a1 (a0.size + 1) _ (by omega) (by omega)).mono ?_
    rintro e w1 ⟨rfl, rfl⟩
    generalize lowN a1 (a0.size + 1) = k at *
    go_wp2_with fail
    refine (places_any a0 _ (by omega)).mono ?_
    rintro e w2 ⟨v, ps, rfl, hb2, hv2, HP⟩
    have HN := hide (own_ntat hv2)
    obtain ⟨aV, cV, rfl⟩ := own_slice hv2
    have hpl : ps.length ≤ 1000 := by
      have h1 := pl_many a0.data.toList 0
      rw [HP.out, len_data] at h1; omega
    clear hv2
    go_wp2
    go_loopw [6, 8] (fun b i wr => ∃ (j : Nat) (t : Bool), i = .int .i64 j ∧ b = .bool t ∧ j ≤ ps.length ∧ Hid (decide (k ∈ ps.take j) = t) ∧ w2 = wr)
      (fun _ i _ => ps.length - (intOf i).toNat)
    case atStart => exact ⟨0, false, rfl, rfl, Nat.zero_le _, hide (by simp), rfl⟩
    case round =>
      obtain ⟨j, t, rfl, rfl, hj, HT, rfl⟩ := hrel
      by_cases hlt : j < ps.length
      · have hmn := mem_next ps j k hlt
        rw [HT.out] at hmn
        have HMN := hide hmn
        obtain ⟨b1, o1, c1, hv1, hc1, hm1, hcell1⟩ := ntat_some HN.out (by omega)
        injection hv1 with hv1 _ hv1c
        subst hv1 hv1c
        unfold maxLen at hm1
        have x1 := hcell1 j hlt
        clear hmn HT hcell1
        generalize ps[j] = p at *
        cases t
        · by_cases hpk : p = k
          · subst hpk
            have HT2 : Hid (decide (p ∈ ps.take (j + 1)) = true) := hide (by rw [HMN.out]; simp)
            have hpp : ((p : Int) == (p : Int)) = true := by simp
            clear HMN
            go_wp2
            refine ⟨?_, by first | (simp [intOf]; done) | (simp [intOf]; omega)⟩
            first
              | exact ⟨j + 1, true, by go_num, rfl, by omega, HT2, by first | rfl | trivial⟩
              | ((repeat apply Exists.intro); exact ⟨⟨j + 1, true, by go_num, rfl, by omega, HT2, by first | rfl | trivial⟩, rfl⟩)
          · have HT2 : Hid (decide (k ∈ ps.take (j + 1)) = false) := hide (by rw [HMN.out]; simp [hpk])
            have hpp : ((p : Int) == (k : Int)) = false := by simp; omega
            clear HMN
            go_wp2
            refine ⟨?_, by first | (simp [intOf]; done) | (simp [intOf]; omega)⟩
            first
              | exact ⟨j + 1, false, by go_num, rfl, by omega, HT2, by first | rfl | trivial⟩
              | ((repeat apply Exists.intro); exact ⟨⟨j + 1, false, by go_num, rfl, by omega, HT2, by first | rfl | trivial⟩, rfl⟩)
        · have HT2 : Hid (decide (k ∈ ps.take (j + 1)) = true) := hide (by rw [HMN.out]; simp)
          clear HMN
          go_wp2
          refine ⟨?_, by first | (simp [intOf]; done) | (simp [intOf]; omega)⟩
          first
            | exact ⟨j + 1, true, by go_num, rfl, by omega, HT2, by first | rfl | trivial⟩
            | ((repeat apply Exists.intro); exact ⟨⟨j + 1, true, by go_num, rfl, by omega, HT2, by first | rfl | trivial⟩, rfl⟩)
      · obtain rfl : j = ps.length := by omega
        have ht : decide (k ∈ plGo a0.data.toList 0) = t := by
          have h1 := HT.out
          rw [List.take_of_length_le (by omega)] at h1
          rw [HP.out]; exact h1
        have hci := cut_iff a0.data.toList k (by rw [len_data]; omega)
        have HCI := hide (show decide (splitL (a0.data.toList.take k) ++ splitL (a0.data.toList.drop k) = splitL a0.data.toList) = t from by rw [← ht, Bool.eq_iff_iff]; simp [hci])
        have hki : (k : Int) ≤ (a0.size : Int) := by omega
        clear HT HP HN ht hci
        obtain ⟨i0, hi0, hz0', hz1, hz2⟩ := info_parts info_str
        have hA : (a0.extract 0 k).data.toList = a0.data.toList.take k := by rw [ext_data, List.drop_zero]
        have hB : (a0.extract k a0.size).data.toList = a0.data.toList.drop k := by rw [ext_data, List.take_of_length_le (by rw [len_data]; omega)]
        have hAs : (a0.extract 0 k).size = k := by rw [ByteArray.size_extract]; omega
        have hBs : (a0.extract k a0.size).size = a0.size - k := by rw [ByteArray.size_extract]; omega
        have HAB := hide (And.intro hA hB)
        have hone : ∀ zs : List ByteArray, ∀ u ∈ zs.map Value.string, u.oneCell' = true := fun zs u hu => by
          simp only [List.mem_map] at hu
          obtain ⟨x, _, rfl⟩ := hu
          rfl
        have HONE := hide hone
        have hmany : ∀ (zs : List ByteArray) (z : ByteArray), zs.map (fun z => z.data.toList) = splitL z.data.toList → zs.length ≤ z.size := fun zs z h => by
          have h1 := congrArg List.length h
          rw [List.length_map] at h1
          have h2 := split_many z.data.toList
          rw [len_data] at h2; omega
        have HMANY := hide hmany
        clear hA hB hone hmany
        go_wp2
        go_region_held3 (fun w' => w2.heap.size ≤ w'.heap.size)
          (first | omega | (simp; done) | (simp; omega))
          (first
            | (go_at_call_of 11 (Value.string (a0.extract 0 k)); refine (split_any (a0.extract 0 k) _ (by omega)).mono ?_; rintro e w5 ⟨v5, zs5, rfl, hb5, hv5, HZ5⟩; obtain ⟨a5, c5, rfl⟩ := own_slice hv5; have hs5 := hb5.size; have hp5 := HMANY.out zs5 _ HZ5.out)
            | (go_at_call 11; refine (split_any (a0.extract k a0.size) _ (by omega)).mono ?_; rintro e w7 ⟨v7, zs7, rfl, hb7, hv7, HZ7⟩; obtain ⟨a7, c7, rfl⟩ := own_slice hv7; have hs7 := hb7.size; have hp7 := HMANY.out zs7 _ HZ7.out)
            | (have O1 := own_below (World.ownsRow_made (base := w2.heap.size) (e := 9) (size := 1) w2.drew #[] 0 (Nat.le_refl _) (by simp [maxLen]) (by simp)) hb5; have B1 := bl_trans (bl_alloc (bl_drew (bl_refl w2)) _) hb5; refine step_src w5 (by rfl) (.tmp 36) (.tmp 40) 23 (by rfl) w2.heap.size 9 i0 (.string ⟨#[]⟩) 1 16 Try.underlying23 hi0 hz0' hz1 hz2 rfl (by decide) (.slice (some ⟨w2.heap.size, 0, none⟩) 0 0) 0 [] (by rfl) O1 a5 zs5.length c5 (zs5.map .string) (by rfl) (own_src hv5) (HONE.out _) (by omega) (by decide) (by simp at hs5; omega) ?_; intro v8 w8 hv8 hg8; have hs8 : w2.heap.size ≤ w8.heap.size := Nat.le_trans (by simp at hs5 ⊢; omega) hg8.size; have B8 := bl_own B1 O1 hg8 (Nat.le_refl _))
            | (have O1 := World.ownsRow_made (base := w2.heap.size) (e := 9) (size := 1) w5 #[] 0 (by simp at hs5; omega) (by simp [maxLen]) (by simp); have B1 := bl_alloc (bl_trans (bl_drew (bl_refl w2)) hb5) (.cells #[] 9); refine step_src (w5.alloc (.cells #[] 9)) (by rfl) (.tmp 36) (.tmp 40) 23 (by rfl) w2.heap.size 9 i0 (.string ⟨#[]⟩) 1 16 Try.underlying23 hi0 hz0' hz1 hz2 rfl (by decide) (.slice (some ⟨w5.heap.size, 0, none⟩) 0 0) 0 [] (by rfl) O1 a5 zs5.length c5 (zs5.map .string) (by rfl) (src_below (own_src hv5) (bl_alloc (bl_refl _) _)) (HONE.out _) (by omega) (by decide) (by simp at hs5 ⊢; omega) ?_; intro v8 w8 hv8 hg8; have hs8 : w2.heap.size ≤ w8.heap.size := Nat.le_trans (by simp at hs5 ⊢; omega) hg8.size; have B8 := bl_own B1 O1 hg8 (Nat.le_refl _))
            | (refine step_src w7 (by rfl) (.tmp 41) (.tmp 45) 23 (by rfl) w2.heap.size 9 i0 (.string ⟨#[]⟩) 1 16 Try.underlying23 hi0 hz0' hz1 hz2 rfl (by decide) v8 (0 + zs5.length) ([] ++ zs5.map .string) (by rfl) (own_below hv8 hb7) a7 zs7.length c7 (zs7.map .string) (by rfl) (own_src hv7) (HONE.out _) (by omega) (by decide) (by omega) ?_; intro v9 w9 hv9 hg9; have hs9 : w2.heap.size ≤ w9.heap.size := Nat.le_trans (by omega) hg9.size; have B9 := bl_own (bl_trans B8 hb7) (own_below hv8 hb7) hg9 (Nat.le_refl _))
            | fail)
        all_goals
          have hv9' : w9.ownsRow w2.heap.size 9 1 v9 (zs5 ++ zs7).length ((zs5 ++ zs7).map .string) := by
            rw [List.length_append, List.map_append]
            have h0 := hv9
            rw [Nat.zero_add, List.nil_append] at h0
            exact h0
          have H9 := hide (own_stat hv9')
          clear hv9' hv9 hv7 hv8 hv5 hg8 hg9 O1 B1 B8 hb5 hb7 hs5 hs7 hs8 hs9
          go_wp2_with fail
          refine (split_any a0 _ (by omega)).mono ?_
          rintro e w10 ⟨v10, zs10, rfl, hb10, hv10, HZ10⟩
          have H10 := hide (own_stat hv10)
          have H9' := hide (stat_below H9.out hb10)
          have hp10 := HMANY.out zs10 _ HZ10.out
          have hr : decide (zs5 ++ zs7 = zs10) = t := by
            rw [← HCI.out, Bool.eq_iff_iff, decide_eq_true_iff, decide_eq_true_iff, zs_map, List.map_append, HZ5.out, HZ7.out, HZ10.out, HAB.out.1, HAB.out.2]
          have HR := hide hr
          have hb10' := bl_trans B9 hb10
          clear hv10 hr HZ5 HZ7 HZ10 HCI H9 hb10 B9 HAB HMANY HONE
          go_wp2_with fail
          refine (textsb_any v9 v10 _ _ t _ H9'.out H10.out (by simp; omega) (by omega) HR.out).mono ?_
          rintro e w11 ⟨rfl, hb11⟩
          cases t
          all_goals
            go_wp2_with fail
            refine (awake11_any _).mono ?_
            rintro e w12 ⟨rfl, hb12⟩
            go_wp2
            go_ret
            exact ⟨rfl, bl_trans (bl_trans (bl_trans hb2 hb10') hb11) hb12⟩
  · go_enter Try.func5, Try.ntmps5
    go_wp2_with fail
    refine (awake11_any _).mono ?_
    rintro e w1 ⟨rfl, hb1⟩
    go_wp2
    go_ret
    exact ⟨rfl, hb1⟩

set_option maxRecDepth 100000 in
theorem lifted (os : Os) (started : os.Started) (H : Type) (enc : TypeId × Value → H) :
    ReturnsInHanded {} Try.checked os 5 .any (Rows.charCutSpec.pre6 enc Try.prog Try.f5 Rows.charCutRow.domain false) (Rows.charCutSpec.post enc Try.prog Try.f5 false true false false) := by
  refine returnsInHanded_of_change (C := Try.checked) own started (by kernel_rfl) Try.func5
    (ChangeSpec.witness6 (enc := enc) (C := Try.checked) false ⟨#[], #[.string ByteArray.empty, .int .i64 0], []⟩ 8 (by kernel_rfl) (by kernel_rfl) (by kernel_rfl) (by kernel_rfl)) ?_
  intro W base args ds gs before hval0 hW hcnd _
  have hval : ∀ (j : Nat) t v, Try.f5.params[j]? = some t → args[j]? = some v → Value.okWide Try.prog W .any base t v := hval0
  have hW' := hW
  obtain ⟨p, q, hA0, hV, rfl, hfz, hnd⟩ := hW
  have hA : DataW.TrodAll enc Try.prog W 0 (fun _ => true) true Try.f5.params.toList args.toList ds p := hA0
  rw [Try.params5] at hA hval
  obtain ⟨v0, vs0, d0, ds0, p0, q0, hargs, rfl, rfl, h0, r0⟩ := trodAll_cons hA
  obtain ⟨v1, vs1, d1, ds1, p1, q1, rfl, rfl, rfl, h1, r1⟩ := trodAll_cons r0
  obtain ⟨rfl, rfl, rfl⟩ := trodAll_nil r1
  obtain rfl : args = #[v0, v1] := by cases args; simp_all
  obtain ⟨rfl, rfl⟩ := trodVars_none hV
  have k0 := h0
  have lt0 : ∀ x ∈ p0, x.block < W.heap.size := by obtain ⟨m, hm⟩ := k0; exact DataW.trod_lt m _ _ _ hm
  obtain ⟨a0, rfl, hd0, hp0, w0⟩ := open_string Try.underlying9 (hval 0 9 v0 rfl rfl) h0
  have k1 := h1
  have lt1 : ∀ x ∈ p1, x.block < W.heap.size := by obtain ⟨m, hm⟩ := k1; exact DataW.trod_lt m _ _ _ hm
  obtain ⟨a1, rfl, hd1, hp1, w1⟩ := open_int Try.underlying3 (hval 1 3 v1 rfl rfl) h1
  clear hA0 hval0
  refine (walk a0 a1 W w0 w1).mono fun e W' ⟨he, bel⟩ => ?_
  subst he
  exact ⟨_, rfl, _, _, _, [], _, [], hW', trodAll_mk1 (shut_bool Try.underlying4 _), (trodAll_cons_mk (Below.trod laidOut (by kernel_rfl) (of_decide_eq_true (by kernel_rfl)) k0 bel lt0) (trodAll_cons_mk (Below.trod laidOut (by kernel_rfl) (of_decide_eq_true (by kernel_rfl)) k1 bel lt1) trodAll_mk0)), rfl, bel.frame _, fun h => by cases h⟩

theorem over : Rows.charCutRow.holds Try.pinned (OpenSpec.ofChange Rows.charCutSpec) :=
  OpenClaim.holds_of_wide 5 Try.f5 rfl rfl rfl rfl rfl rfl rfl ⟨rfl, rfl, rfl, rfl, rfl⟩ rfl rfl rfl rfl rfl (by kernel_rfl) Try.func5 (by kernel_rfl)
    (of_decide_eq_true (by kernel_rfl)) (by unfold Func.isWrapper; first | (rw [if_pos (by decide +kernel)]; kernel_rfl) | (rw [if_neg (by decide +kernel)]; exact ⟨rfl, rfl⟩))
    (fun os started H enc _ => lifted os started H enc)

theorem proved : Rows.CharCutSaid := over
end Go.Proofs.Ytodnnhhlpinpbaa.charCut
