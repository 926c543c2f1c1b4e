/- Any text's characters, and where they begin, are the reference's; so is what one is. Conditions: none beyond the form's own. -/
import Derived.Test.YtodnnhhlpinpbaaRows
import Derived.Test.YtodnnhhlpinpbaaArgs
import Derived.Test.YtodnnhhlpinpbaaCharG
namespace Go.Proofs.Ytodnnhhlpinpbaa.charTells
open Go.Proofs.Ytodnnhhlpinpbaa
open Go.ChangeShapes Go.WideShapes Go.ChangeAt Go.RowKit Go.Deep
open Go.ChangeMaps (open_string shut_string)
set_option linter.unusedVariables false

theorem own : ownKnob Try.prog.godebug = none := by kernel_rfl
theorem laidOut : laidOutB Try.prog = true := by kernel_rfl
-- opt:4000000
theorem zs_eq (a b : List ByteArray) (h : a.map (fun z => z.data.toList) = b.map (fun z => z.data.toList)) : a = b := by
  induction a generalizing b with
  | nil => cases b with
    | nil => rfl
    | cons y r => simp at h
  | cons x t ih =>
    cases b with
    | nil => simp at h
    | cons y r =>
      simp only [List.map_cons, List.cons.injEq] at h
      rw [ih r h.2, ByteArray.ext (Array.ext' h.1)]
theorem chGo_many (l acc : List UInt8) : (chGo l acc).length ≤ l.length + 1 := by
  induction l generalizing acc with
  | nil => simp [chGo]
  | cons c t ih =>
    rw [chGo, List.length_cons]
    split
    · have := ih (acc ++ [c]); omega
    · have := ih [c]; rw [List.length_cons]; omega
theorem split_many (l : List UInt8) : (splitL l).length ≤ l.length := by
  cases l with
  | nil => exact Nat.le_refl _
  | cons c r => rw [splitL, List.length_cons]; exact chGo_many r [c]
theorem pl_many (l : List UInt8) (i : Nat) : (plGo l i).length ≤ l.length + 1 := by
  induction l generalizing i with
  | nil => simp [plGo]
  | cons c t ih =>
    rw [plGo, List.length_cons]
    have := ih (i + 1)
    split
    · rw [List.length_cons]; omega
    · omega
theorem texts_eq (v u : Value) (l k : List ByteArray) (w : World) (h : StAt w v l) (g : StAt w u k) (hl : l.length ≤ 1000) (hk : k.length ≤ 1000) (e : l = k) :
    Calls Try.prog 10 #[v, u] w fun e w' => e = .returned (.bool true) ∧ Below w.heap.size w w' :=
  (texts_any v u l k w h g hl hk).mono fun _ _ ⟨he, n, hw⟩ => ⟨by rw [he, e]; simp, by rw [hw]; exact bl_drewN (bl_refl w) n⟩
theorem ints_eq (v u : Value) (l k : List Nat) (w : World) (h : NtAt w v l) (g : NtAt w u k) (hl : l.length ≤ 1000) (hk : k.length ≤ 1000) (e : l = k) :
    Calls Try.prog 12 #[v, u] w fun e w' => e = .returned (.bool true) ∧ Below w.heap.size w w' :=
  (ints_any v u l k w h g hl hk).mono fun _ _ ⟨he, n, hw⟩ => ⟨by rw [he, e]; simp, by rw [hw]; exact bl_drewN (bl_refl w) n⟩
theorem rfolde_any (s X : ByteArray) (w : World) (hs : s.size ≤ 1000000) (hX : mapS downB s = X) :
    Calls Try.prog 19 #[.string s] w fun e w' => e = .returned (.string X) ∧ Below w.heap.size w w' := by
  subst hX; exact rfold_any s w hs
set_option maxRecDepth 100000 in
set_option maxHeartbeats 4000000 in
theorem walk (a0 : ByteArray) (a1 : ByteArray) (w : World) (w0 : a0.size ≤ maxLen) (w1 : a1.size ≤ maxLen) :
    Calls Try.prog 3 #[.string a0, .string a1] w fun e w' => e = .returned (.bool true) ∧ Below w.heap.size w w' := by
  by_cases hs : a0.size ≤ 200 ∧ a1.size ≤ 200
  · obtain ⟨hs1, hs2⟩ := hs
    by_cases h0 : 0 < a0.size
    · have hi0 : (0 : Int) < (a0.size : Int) := by omega
      have hsm := split_many a0.data.toList
      rw [len_data] at hsm
      go_enter Try.func3, Try.ntmps3
      go_wp2_with fail
      refine (rsplit_any a0 _ (by omega)).mono ?_
      rintro e w1 ⟨v1, zs1, rfl, hb1, hv1, HZ1⟩
      have hl1 : zs1.length ≤ 200 := by
        have h1 := congrArg List.length HZ1.out
        rw [List.length_map] at h1; omega
      have hp1 : 0 < zs1.length := by
        rcases Nat.eq_zero_or_pos zs1.length with h1 | h1
        · have h2 := List.eq_nil_of_length_eq_zero h1
          have h3 := HZ1.out
          rw [h2] at h3
          exact absurd h3.symm (splitL_ne _ (by rw [len_data]; exact h0))
        · exact h1
      obtain ⟨x, r1, rfl⟩ : ∃ x r, zs1 = x :: r := by cases zs1 with
        | nil => simp at hp1
        | cons x r => exact ⟨x, r, rfl⟩
      have hxd : x.data.toList = a0.data.toList.take (firstN a0.data.toList) := by
        have h3 := HZ1.out
        rw [splitL_eq _ (by rw [len_data]; exact h0), List.map_cons] at h3
        exact (List.cons.inj h3).1
      have hfx : a0.extract 0 (firstN a0.data.toList) = x := by
        apply ByteArray.ext; apply Array.ext'
        rw [ext_data, List.drop_zero, hxd]
      have HFX := hide hfx
      obtain ⟨g1, o1, c1, hv, hc1, hm1, hcell⟩ := stat_some (own_stat hv1) (by simp)
      subst hv
      have hx0 := hcell 0 (by simp)
      unfold maxLen at hm1
      simp only [List.getElem_cons_zero, Nat.add_zero, List.length_cons] at hx0 hc1
      clear hv1 HZ1 hxd hfx hcell hp1
      go_wp2_with fail
      refine (split_any a0 _ (by omega)).mono ?_
      rintro e w2 ⟨v2, zs2, rfl, hb2, hv2, HZ2⟩
      have H2 := hide (own_stat hv2)
      have hl2 : zs2.length ≤ 200 := by
        have h1 := congrArg List.length HZ2.out
        rw [List.length_map] at h1; omega
      clear hv2
      go_wp2_with fail
      refine (rsplit_any a0 _ (by omega)).mono ?_
      rintro e w3 ⟨v3, zs3, rfl, hb3, hv3, HZ3⟩
      have H3 := hide (own_stat hv3)
      have H2' := hide (stat_below H2.out hb3)
      have hzz : zs2 = zs3 := zs_eq _ _ (by rw [HZ2.out, HZ3.out])
      subst hzz
      clear hv3 HZ2 HZ3 H2
      go_wp2_with fail
      refine (texts_eq v2 v3 _ _ _ H2'.out H3.out (by omega) (by omega) rfl).mono ?_
      rintro e w4 ⟨rfl, hb4⟩
      have hpm := pl_many a0.data.toList 0
      rw [len_data] at hpm
      go_wp2_with fail
      refine (places_any a0 _ (by omega)).mono ?_
      rintro e w5 ⟨v5, ps5, rfl, hb5, hv5, HP5⟩
      have H5 := hide (own_ntat hv5)
      have hl5 : ps5.length ≤ 201 := by rw [← HP5.out]; omega
      clear hv5
      go_wp2_with fail
      refine (rplaces_any a0 _ (by omega)).mono ?_
      rintro e w6 ⟨v6, ps6, rfl, hb6, hv6, HP6⟩
      have H6 := hide (own_ntat hv6)
      have H5' := hide (ntat_below H5.out hb6)
      have hpp : ps5 = ps6 := by rw [← HP5.out, ← HP6.out]
      subst hpp
      clear hv6 HP5 HP6 H5 hpm
      go_wp2_with fail
      refine (ints_eq v5 v6 _ _ _ H5'.out H6.out (by omega) (by omega) rfl).mono ?_
      rintro e w7 ⟨rfl, hb7⟩
      go_wp2_with fail
      refine (firste_any a0 x _ (by omega) HFX.out).mono ?_
      rintro e w8 ⟨rfl, rfl⟩
      obtain ⟨rp, hrp⟩ : ∃ r, properB a1.data.toList = r := ⟨_, rfl⟩
      have HRP := hide hrp
      clear hrp
      go_wp2_with fail
      refine (properq_any a1 rp _ (by omega) HRP.out).mono ?_
      rintro e w8 ⟨rfl, hb8⟩
      go_wp2_with fail
      refine (rproper_any a1 rp _ (by omega) HRP.out).mono ?_
      rintro e w9 ⟨rfl, hb9⟩
      obtain ⟨sf, hsf⟩ : ∃ r, mapS downB a1 = r := ⟨_, rfl⟩
      have HSF := hide hsf
      clear hsf
      go_wp2_with fail
      refine (folde_any a1 sf _ (by omega) HSF.out).mono ?_
      rintro e w10 ⟨rfl, hb10⟩
      go_wp2_with fail
      refine (rfolde_any a1 sf _ (by omega) HSF.out).mono ?_
      rintro e w11 ⟨rfl, hb11⟩
      obtain ⟨rw', hrw⟩ : ∃ r, wdB a1.data.toList = r := ⟨_, rfl⟩
      have HRW := hide hrw
      clear hrw
      go_wp2_with fail
      refine (word_any a1 rw' _ HRW.out).mono ?_
      rintro e w12 ⟨rfl, hb12⟩
      go_wp2_with fail
      refine (rword_any a1 rw' _ HRW.out).mono ?_
      rintro e w13 ⟨rfl, hb13⟩
      go_wp2_with fail
      refine (awake11_any _).mono ?_
      rintro e w14 ⟨rfl, hb14⟩
      go_wp2
      go_ret
      exact ⟨rfl, bl_trans hb1 (bl_trans (bl_trans (bl_trans (bl_trans (bl_trans (bl_trans (bl_trans (bl_trans (bl_trans (bl_trans (bl_trans (bl_trans hb2 hb3) hb4) hb5) hb6) hb7) hb8) hb9) hb10) hb11) hb12) hb13) hb14)⟩
    · have hle : a0.data.toList = [] := List.eq_nil_of_length_eq_zero (by rw [len_data]; omega)
      have hfx : a0.extract 0 (firstN a0.data.toList) = ⟨#[]⟩ := by
        apply ByteArray.ext; apply Array.ext'
        rw [ext_data, hle]; rfl
      have HFX := hide hfx
      have hi0 : decide ((0 : Int) < (a0.size : Int)) = false := decide_eq_false_iff_not.2 (by omega)
      have hi1 : (a0.size : Int) ≤ 0 := by omega
      have hsm := split_many a0.data.toList
      rw [len_data] at hsm
      clear hle hfx
      go_enter Try.func3, Try.ntmps3
      go_wp2_with fail
      refine (split_any a0 _ (by omega)).mono ?_
      rintro e w2 ⟨v2, zs2, rfl, hb2, hv2, HZ2⟩
      have H2 := hide (own_stat hv2)
      have hl2 : zs2.length ≤ 200 := by
        have h1 := congrArg List.length HZ2.out
        rw [List.length_map] at h1; omega
      clear hv2
      go_wp2_with fail
      refine (rsplit_any a0 _ (by omega)).mono ?_
      rintro e w3 ⟨v3, zs3, rfl, hb3, hv3, HZ3⟩
      have H3 := hide (own_stat hv3)
      have H2' := hide (stat_below H2.out hb3)
      have hzz : zs2 = zs3 := zs_eq _ _ (by rw [HZ2.out, HZ3.out])
      subst hzz
      clear hv3 HZ2 HZ3 H2
      go_wp2_with fail
      refine (texts_eq v2 v3 _ _ _ H2'.out H3.out (by omega) (by omega) rfl).mono ?_
      rintro e w4 ⟨rfl, hb4⟩
      have hpm := pl_many a0.data.toList 0
      rw [len_data] at hpm
      go_wp2_with fail
      refine (places_any a0 _ (by omega)).mono ?_
      rintro e w5 ⟨v5, ps5, rfl, hb5, hv5, HP5⟩
      have H5 := hide (own_ntat hv5)
      have hl5 : ps5.length ≤ 201 := by rw [← HP5.out]; omega
      clear hv5
      go_wp2_with fail
      refine (rplaces_any a0 _ (by omega)).mono ?_
      rintro e w6 ⟨v6, ps6, rfl, hb6, hv6, HP6⟩
      have H6 := hide (own_ntat hv6)
      have H5' := hide (ntat_below H5.out hb6)
      have hpp : ps5 = ps6 := by rw [← HP5.out, ← HP6.out]
      subst hpp
      clear hv6 HP5 HP6 H5 hpm
      go_wp2_with fail
      refine (ints_eq v5 v6 _ _ _ H5'.out H6.out (by omega) (by omega) rfl).mono ?_
      rintro e w7 ⟨rfl, hb7⟩
      go_wp2_with fail
      refine (firste_any a0 ⟨#[]⟩ _ (by omega) HFX.out).mono ?_
      rintro e w8 ⟨rfl, rfl⟩
      obtain ⟨rp, hrp⟩ : ∃ r, properB a1.data.toList = r := ⟨_, rfl⟩
      have HRP := hide hrp
      clear hrp
      go_wp2_with fail
      refine (properq_any a1 rp _ (by omega) HRP.out).mono ?_
      rintro e w8 ⟨rfl, hb8⟩
      go_wp2_with fail
      refine (rproper_any a1 rp _ (by omega) HRP.out).mono ?_
      rintro e w9 ⟨rfl, hb9⟩
      obtain ⟨sf, hsf⟩ : ∃ r, mapS downB a1 = r := ⟨_, rfl⟩
      have HSF := hide hsf
      clear hsf
      go_wp2_with fail
      refine (folde_any a1 sf _ (by omega) HSF.out).mono ?_
      rintro e w10 ⟨rfl, hb10⟩
      go_wp2_with fail
      refine (rfolde_any a1 sf _ (by omega) HSF.out).mono ?_
      rintro e w11 ⟨rfl, hb11⟩
      obtain ⟨rw', hrw⟩ : ∃ r, wdB a1.data.toList = r := ⟨_, rfl⟩
      have HRW := hide hrw
      clear hrw
      go_wp2_with fail
      refine (word_any a1 rw' _ HRW.out).mono ?_
      rintro e w12 ⟨rfl, hb12⟩
      go_wp2_with fail
      refine (rword_any a1 rw' _ HRW.out).mono ?_
      rintro e w13 ⟨rfl, hb13⟩
      go_wp2_with fail
      refine (awake11_any _).mono ?_
      rintro e w14 ⟨rfl, hb14⟩
      go_wp2
      go_ret
      exact ⟨rfl, (bl_trans (bl_trans (bl_trans (bl_trans (bl_trans (bl_trans (bl_trans (bl_trans (bl_trans (bl_trans (bl_trans (bl_trans hb2 hb3) hb4) hb5) hb6) hb7) hb8) hb9) hb10) hb11) hb12) hb13) hb14)⟩
  · go_enter Try.func3, Try.ntmps3
    go_wp2_with (go_at_call 8; refine (awake11_any _).mono ?_; rintro e w1 ⟨rfl, hb1⟩)
    all_goals first
      | (go_ret; exact ⟨rfl, hb1⟩)
      | (exfalso; omega)

set_option maxRecDepth 100000 in
theorem lifted (os : Os) (started : os.Started) (H : Type) (enc : TypeId × Value → H) :
    ReturnsInHanded {} Try.checked os 3 .any (Rows.charTellsSpec.pre6 enc Try.prog Try.f3 Rows.charTellsRow.domain false) (Rows.charTellsSpec.post enc Try.prog Try.f3 false true false false) := by
  refine returnsInHanded_of_change (C := Try.checked) own started (by kernel_rfl) Try.func3
    (ChangeSpec.witness6 (enc := enc) (C := Try.checked) false ⟨#[], #[.string ByteArray.empty, .string ByteArray.empty], []⟩ 8 (by kernel_rfl) (by kernel_rfl) (by kernel_rfl) (by kernel_rfl)) ?_
  intro W base args ds gs before hval0 hW hcnd _
  have hval : ∀ (j : Nat) t v, Try.f3.params[j]? = some t → args[j]? = some v → Value.okWide Try.prog W .any base t v := hval0
  have hW' := hW
  obtain ⟨p, q, hA0, hV, rfl, hfz, hnd⟩ := hW
  have hA : DataW.TrodAll enc Try.prog W 0 (fun _ => true) true Try.f3.params.toList args.toList ds p := hA0
  rw [Try.params3] at hA hval
  obtain ⟨v0, vs0, d0, ds0, p0, q0, hargs, rfl, rfl, h0, r0⟩ := trodAll_cons hA
  obtain ⟨v1, vs1, d1, ds1, p1, q1, rfl, rfl, rfl, h1, r1⟩ := trodAll_cons r0
  obtain ⟨rfl, rfl, rfl⟩ := trodAll_nil r1
  obtain rfl : args = #[v0, v1] := by cases args; simp_all
  obtain ⟨rfl, rfl⟩ := trodVars_none hV
  have k0 := h0
  have lt0 : ∀ x ∈ p0, x.block < W.heap.size := by obtain ⟨m, hm⟩ := k0; exact DataW.trod_lt m _ _ _ hm
  obtain ⟨a0, rfl, hd0, hp0, w0⟩ := open_string Try.underlying9 (hval 0 9 v0 rfl rfl) h0
  have k1 := h1
  have lt1 : ∀ x ∈ p1, x.block < W.heap.size := by obtain ⟨m, hm⟩ := k1; exact DataW.trod_lt m _ _ _ hm
  obtain ⟨a1, rfl, hd1, hp1, w1⟩ := open_string Try.underlying9 (hval 1 9 v1 rfl rfl) h1
  clear hA0 hval0
  refine (walk a0 a1 W w0 w1).mono fun e W' ⟨he, bel⟩ => ?_
  subst he
  exact ⟨_, rfl, _, _, _, [], _, [], hW', trodAll_mk1 (shut_bool Try.underlying4 _), (trodAll_cons_mk (Below.trod laidOut (by kernel_rfl) (of_decide_eq_true (by kernel_rfl)) k0 bel lt0) (trodAll_cons_mk (Below.trod laidOut (by kernel_rfl) (of_decide_eq_true (by kernel_rfl)) k1 bel lt1) trodAll_mk0)), rfl, bel.frame _, fun h => by cases h⟩

theorem over : Rows.charTellsRow.holds Try.pinned (OpenSpec.ofChange Rows.charTellsSpec) :=
  OpenClaim.holds_of_wide 3 Try.f3 rfl rfl rfl rfl rfl rfl rfl ⟨rfl, rfl, rfl, rfl, rfl⟩ rfl rfl rfl rfl rfl (by kernel_rfl) Try.func3 (by kernel_rfl)
    (of_decide_eq_true (by kernel_rfl)) (by unfold Func.isWrapper; first | (rw [if_pos (by decide +kernel)]; kernel_rfl) | (rw [if_neg (by decide +kernel)]; exact ⟨rfl, rfl⟩))
    (fun os started H enc _ => lifted os started H enc)

theorem proved : Rows.CharTellsSaid := over
end Go.Proofs.Ytodnnhhlpinpbaa.charTells
