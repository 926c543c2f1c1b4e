/- Without a lead, and with a tab or nothing for a unit, a text is itself; a text of one line always is. Conditions: none beyond the form's own. -/
import Derived.Test.YtdlagabepilcfaaRows
import Derived.Test.YtdlagabepilcfaaArgs
import Derived.Test.YtdlagabepilcfaaParts
namespace Go.Proofs.Ytdlagabepilcfaa.leadNone
open Go.Proofs.Ytdlagabepilcfaa
open Go.ChangeShapes Go.WideShapes Go.ChangeAt Go.RowKit Go.Deep
open Go.ChangeMaps (open_string shut_string)
set_option linter.unusedVariables false

theorem own : ownKnob Try.prog.godebug = none := by kernel_rfl
theorem laidOut : laidOutB Try.prog = true := by kernel_rfl
theorem sp_len (l acc : List UInt8) : ∀ x ∈ sp l acc, x.length ≤ acc.length + l.length := by
  induction l generalizing acc with
  | nil => intro x hx; rw [sp, List.mem_singleton] at hx; subst hx; simp
  | cons c t ih =>
    intro x hx
    rw [sp] at hx
    rw [List.length_cons]
    by_cases hc : c.toNat = 10
    · rw [if_pos hc] at hx
      rcases List.mem_cons.1 hx with rfl | hx
      · omega
      · have := ih [] x hx; simp at this; omega
    · rw [if_neg hc] at hx
      have := ih _ x hx
      rw [List.length_append] at this; simp at this; omega
set_option maxRecDepth 100000 in
set_option maxHeartbeats 1000000 in
theorem walk (a0 : ByteArray) (a1 : ByteArray) (a2 : ByteArray) (w : World) (w0 : a0.size ≤ maxLen) (w1 : a1.size ≤ maxLen) (w2 : a2.size ≤ maxLen) :
    Calls Try.prog 5 #[.string a0, .string a1, .string a2] w fun e w' => e = .returned (.bool true) ∧ Below w.heap.size w w' := by
  by_cases hs : a0.size ≤ 100 ∧ a1.size ≤ 30 ∧ a2.size ≤ 30
  · obtain ⟨hs0, hs1, hs2⟩ := hs
    have H1 : Hid ((⟨(adL (⟨#[]⟩ : ByteArray).data.toList (unL (⟨#[]⟩ : ByteArray).data.toList) a0.data.toList false).toArray⟩ : ByteArray) = a0) := hide (by
      show (⟨(adL [] [9] a0.data.toList false).toArray⟩ : ByteArray) = a0
      rw [ad_none])
    have H2 : Hid ((⟨(adL (⟨#[]⟩ : ByteArray).data.toList (unL (⟨#[9]⟩ : ByteArray).data.toList) a0.data.toList false).toArray⟩ : ByteArray) = a0) := hide (by
      show (⟨(adL [] [9] a0.data.toList false).toArray⟩ : ByteArray) = a0
      rw [ad_none])
    go_enter Try.func5, Try.ntmps5
    go_wp2_with fail
    refine (parts_any a0 _ (by omega)).mono ?_
    rintro e w1 ⟨v, zs, rfl, hb1, hv, HZ⟩
    obtain ⟨x, r, hx, _⟩ := sp_acc a0.data.toList []
    have hcl := sp_clean a0.data.toList [] (by simp) x (by rw [hx]; simp)
    have hz := HZ.out
    rw [hx] at hz
    cases zs with
    | nil => cases hz
    | cons z rr =>
      obtain ⟨hzx, _⟩ := List.cons.inj hz
      have hzx : z.data.toList = x := hzx
      have hzs : z.size ≤ 100000 := by
        have := sp_len a0.data.toList [] x (by rw [hx]; simp)
        rw [← hzx, len_data, len_data] at this
        simp at this
        omega
      have H3 : Hid ((⟨(adL a1.data.toList (unL a2.data.toList) z.data.toList false).toArray⟩ : ByteArray) = z) := hide (by
        rw [ad_clean _ _ _ (by rw [hzx]; exact hcl)])
      clear HZ hz hx hcl hzx
      rcases own_form hv with ⟨_, h0, _⟩ | ⟨g, c, rfl, hg, hgl, hnc, hcm, hcs⟩
      · cases h0
      · have hc0 := hcs 0 (.string z) rfl
        have hlen : (z :: rr).length = rr.length + 1 := rfl
        rw [hlen]
        clear hcs hv
        go_wp2_with fail
        refine (adaptx_any a0 ⟨#[]⟩ ⟨#[]⟩ a0 _ (by omega) (by decide) (by decide) H1.out).mono ?_
        rintro e w3 ⟨rfl, hb3⟩
        go_wp2_with fail
        refine (adaptx_any a0 ⟨#[]⟩ ⟨#[9]⟩ a0 _ (by omega) (by decide) (by decide) H2.out).mono ?_
        rintro e w4 ⟨rfl, hb4⟩
        go_wp2_with fail
        refine (adaptx_any z a1 a2 z _ (by omega) (by omega) (by omega) H3.out).mono ?_
        rintro e w5 ⟨rfl, hb5⟩
        go_wp2_with fail
        refine (awake24_any _).mono ?_
        rintro e w6 ⟨rfl, hb6⟩
        go_wp2
        go_ret
        exact ⟨rfl, (by repeat (first | exact bl_refl _ | assumption | refine bl_alloc ?_ _ | refine bl_drewN ?_ _ | refine bl_drew ?_ | refine bl_trans ?_ (by assumption)))⟩
  · have hs1 : 100 < a0.size ∨ 30 < a1.size ∨ 30 < a2.size := by omega
    go_enter Try.func5, Try.ntmps5
    go_wp2_with fail
    all_goals
      refine (awake24_any _).mono ?_
      rintro e w1 ⟨rfl, hb1⟩
      go_wp2
      go_ret
      exact ⟨rfl, hb1⟩

set_option maxRecDepth 100000 in
theorem lifted (os : Os) (started : os.Started) (H : Type) (enc : TypeId × Value → H) :
    ReturnsInHanded {} Try.checked os 5 .any (Rows.leadNoneSpec.pre6 enc Try.prog Try.f5 Rows.leadNoneRow.domain false) (Rows.leadNoneSpec.post enc Try.prog Try.f5 false true false false) := by
  refine returnsInHanded_of_change (C := Try.checked) own started (by kernel_rfl) Try.func5
    (ChangeSpec.witness6 (enc := enc) (C := Try.checked) false ⟨#[], #[.string ByteArray.empty, .string ByteArray.empty, .string ByteArray.empty], []⟩ 8 (by kernel_rfl) (by kernel_rfl) (by kernel_rfl) (by kernel_rfl)) ?_
  intro W base args ds gs before hval0 hW hcnd _
  have hval : ∀ (j : Nat) t v, Try.f5.params[j]? = some t → args[j]? = some v → Value.okWide Try.prog W .any base t v := hval0
  have hW' := hW
  obtain ⟨p, q, hA0, hV, rfl, hfz, hnd⟩ := hW
  have hA : DataW.TrodAll enc Try.prog W 0 (fun _ => true) true Try.f5.params.toList args.toList ds p := hA0
  rw [Try.params5] at hA hval
  obtain ⟨v0, vs0, d0, ds0, p0, q0, hargs, rfl, rfl, h0, r0⟩ := trodAll_cons hA
  obtain ⟨v1, vs1, d1, ds1, p1, q1, rfl, rfl, rfl, h1, r1⟩ := trodAll_cons r0
  obtain ⟨v2, vs2, d2, ds2, p2, q2, rfl, rfl, rfl, h2, r2⟩ := trodAll_cons r1
  obtain ⟨rfl, rfl, rfl⟩ := trodAll_nil r2
  obtain rfl : args = #[v0, v1, v2] := by cases args; simp_all
  obtain ⟨rfl, rfl⟩ := trodVars_none hV
  have k0 := h0
  have lt0 : ∀ x ∈ p0, x.block < W.heap.size := by obtain ⟨m, hm⟩ := k0; exact DataW.trod_lt m _ _ _ hm
  obtain ⟨a0, rfl, hd0, hp0, w0⟩ := open_string Try.underlying9 (hval 0 9 v0 rfl rfl) h0
  have k1 := h1
  have lt1 : ∀ x ∈ p1, x.block < W.heap.size := by obtain ⟨m, hm⟩ := k1; exact DataW.trod_lt m _ _ _ hm
  obtain ⟨a1, rfl, hd1, hp1, w1⟩ := open_string Try.underlying9 (hval 1 9 v1 rfl rfl) h1
  have k2 := h2
  have lt2 : ∀ x ∈ p2, x.block < W.heap.size := by obtain ⟨m, hm⟩ := k2; exact DataW.trod_lt m _ _ _ hm
  obtain ⟨a2, rfl, hd2, hp2, w2⟩ := open_string Try.underlying9 (hval 2 9 v2 rfl rfl) h2
  clear hA0 hval0
  refine (walk a0 a1 a2 W w0 w1 w2).mono fun e W' ⟨he, bel⟩ => ?_
  subst he
  exact ⟨_, rfl, _, _, _, [], _, [], hW', trodAll_mk1 (shut_bool Try.underlying4 _), (trodAll_cons_mk (Below.trod laidOut (by kernel_rfl) (of_decide_eq_true (by kernel_rfl)) k0 bel lt0) (trodAll_cons_mk (Below.trod laidOut (by kernel_rfl) (of_decide_eq_true (by kernel_rfl)) k1 bel lt1) (trodAll_cons_mk (Below.trod laidOut (by kernel_rfl) (of_decide_eq_true (by kernel_rfl)) k2 bel lt2) trodAll_mk0))), rfl, bel.frame _, fun h => by cases h⟩

theorem over : Rows.leadNoneRow.holds Try.pinned (OpenSpec.ofChange Rows.leadNoneSpec) :=
  OpenClaim.holds_of_wide 5 Try.f5 rfl rfl rfl rfl rfl rfl rfl ⟨rfl, rfl, rfl, rfl, rfl⟩ rfl rfl rfl rfl rfl (by kernel_rfl) Try.func5 (by kernel_rfl)
    (of_decide_eq_true (by kernel_rfl)) (by unfold Func.isWrapper; first | (rw [if_pos (by decide +kernel)]; kernel_rfl) | (rw [if_neg (by decide +kernel)]; exact ⟨rfl, rfl⟩))
    (fun os started H enc _ => lifted os started H enc)

theorem proved : Rows.LeadNoneSaid := over
end Go.Proofs.Ytdlagabepilcfaa.leadNone
