/- Names and ways are one another's; all other names are no way, all other ways have none. Conditions: none beyond the form's own. -/
import Derived.Test.YtipbfldiacbfaaaRows
import Derived.Test.YtipbfldiacbfaaaArgs
import Derived.Test.YtipbfldiacbfaaaCasingB
namespace Go.Proofs.Ytipbfldiacbfaaa.casingNames
open Go.Proofs.Ytipbfldiacbfaaa
open Go.ChangeShapes Go.WideShapes Go.ChangeAt Go.RowKit Go.Deep
open Go.ChangeMaps (open_string shut_string)
set_option linter.unusedVariables false

theorem own : ownKnob Try.prog.godebug = none := by kernel_rfl
theorem laidOut : laidOutB Try.prog = true := by kernel_rfl
theorem wyL_cases (l : List UInt8) : (wyL l = 0) ∨ (∃ k : Int, wyL l = k ∧ (k = 1 ∨ k = 2 ∨ k = 3 ∨ k = 4 ∨ k = 5) ∧ nmL k = l) := by
  unfold wyL
  split
  · rename_i h; exact .inr ⟨1, rfl, .inl rfl, eq_of_beq h⟩
  split
  · rename_i h; exact .inr ⟨2, rfl, .inr (.inl rfl), eq_of_beq h⟩
  split
  · rename_i h; exact .inr ⟨3, rfl, .inr (.inr (.inl rfl)), eq_of_beq h⟩
  split
  · rename_i h; exact .inr ⟨4, rfl, .inr (.inr (.inr (.inl rfl))), eq_of_beq h⟩
  split
  · rename_i h; exact .inr ⟨5, rfl, .inr (.inr (.inr (.inr rfl))), eq_of_beq h⟩
  · exact .inl rfl
theorem wy_nm (k : Int) (h : 1 ≤ k ∧ k ≤ 5) : wyL (nmL k) = k := by
  have : k = 1 ∨ k = 2 ∨ k = 3 ∨ k = 4 ∨ k = 5 := by omega
  rcases this with rfl | rfl | rfl | rfl | rfl <;> decide +kernel
theorem nm_some (k : Int) (h : 1 ≤ k ∧ k ≤ 5) : (⟨(nmL k).toArray⟩ : ByteArray).toList.isEmpty = false := by
  have : k = 1 ∨ k = 2 ∨ k = 3 ∨ k = 4 ∨ k = 5 := by omega
  rcases this with rfl | rfl | rfl | rfl | rfl <;> decide +kernel
theorem nm_none (k : Int) (h : ¬ (1 ≤ k ∧ k ≤ 5)) : nmL k = [] := by
  unfold nmL
  rw [if_neg (by omega), if_neg (by omega), if_neg (by omega), if_neg (by omega), if_neg (by omega)]
theorem nm_list (k : Int) : (⟨(nmL k).toArray⟩ : ByteArray).toList = nmL k := by rw [Go.ByteArray.toList_eq]
/-- The second half's three ways. -/
theorem wayk_any (s : ByteArray) (w : World) (k : Int) (h : wyL s.toList = k) : Calls Try.prog 14 #[.string s] w fun e w' => e = .returned (.int .i64 k) ∧ w = w' := by rw [← h]; exact way_any s w
theorem rwayk_any (s : ByteArray) (w : World) (k : Int) (h : wyL s.toList = k) : Calls Try.prog 15 #[.string s] w fun e w' => e = .returned (.int .i64 k) ∧ w = w' := by rw [← h]; exact rway_any s w
theorem namek_any (k : Int) (s : ByteArray) (w : World) (h : (⟨(nmL k).toArray⟩ : ByteArray) = s) : Calls Try.prog 12 #[.int .i64 k] w fun e w' => e = .returned (.string s) ∧ w = w' := by rw [← h]; exact name_any k w
theorem rnamek_any (k : Int) (s : ByteArray) (w : World) (h : (⟨(nmL k).toArray⟩ : ByteArray) = s) : Calls Try.prog 13 #[.int .i64 k] w fun e w' => e = .returned (.string s) ∧ w = w' := by rw [← h]; exact rname_any k w
set_option maxRecDepth 100000 in
set_option maxHeartbeats 1000000 in
theorem walk (a0 : Int) (a1 : ByteArray) (w : World) (w0 : (Lit.int .i64 a0).wf = true) (w1 : a1.size ≤ maxLen) :
    Calls Try.prog 4 #[.int .i64 a0, .string a1] w fun e w' => e = .returned (.bool true) ∧ Below w.heap.size w w' := by
  by_cases h : 1 ≤ a0 ∧ a0 ≤ 5
  · have hne := nm_some a0 h
    have hw := (congrArg wyL (nm_list a0)).trans (wy_nm a0 h)
    have HW := hide hw
    clear hw
    obtain ⟨nb, hnb⟩ : ∃ nb : ByteArray, (⟨(nmL a0).toArray⟩ : ByteArray) = nb := ⟨_, rfl⟩
    rw [hnb] at hne HW
    have HNB := hide hnb
    clear hnb
    go_enter Try.func4, Try.ntmps4
    go_wp2_with fail
    refine (namek_any a0 nb _ HNB.out).mono ?_
    rintro e w1 ⟨rfl, rfl⟩
    go_wp2_with fail
    refine (rnamek_any a0 nb _ HNB.out).mono ?_
    rintro e w1 ⟨rfl, rfl⟩
    go_wp2_with fail
    refine (wayk_any nb _ a0 HW.out).mono ?_
    rintro e w1 ⟨rfl, rfl⟩
    rcases wyL_cases a1.toList with hz | ⟨k, hk, hk5, hkn⟩
    · go_wp2_with fail
      refine (wayk_any a1 _ 0 hz).mono ?_
      rintro e w1 ⟨rfl, rfl⟩
      go_wp2_with fail
      refine (rwayk_any a1 _ 0 hz).mono ?_
      rintro e w1 ⟨rfl, rfl⟩
      go_wp2_with fail
      refine (awake17_any _).mono ?_
      rintro e w1 ⟨rfl, hb⟩
      go_wp2
      go_ret
      exact ⟨rfl, hb⟩
    · have hs : (⟨(nmL k).toArray⟩ : ByteArray) = a1 := by rw [hkn, Go.ByteArray.toList_eq]
      have hne : (k == 0) = false := by simp; omega
      have HK := hide hk
      have HS := hide hs
      clear hk hkn hs
      go_wp2_with fail
      refine (wayk_any a1 _ k HK.out).mono ?_
      rintro e w1 ⟨rfl, rfl⟩
      go_wp2_with fail
      refine (namek_any k a1 _ HS.out).mono ?_
      rintro e w1 ⟨rfl, rfl⟩
      go_wp2_with fail
      refine (awake17_any _).mono ?_
      rintro e w1 ⟨rfl, hb⟩
      go_wp2
      go_ret
      exact ⟨rfl, hb⟩
  · have hnb : (⟨(nmL a0).toArray⟩ : ByteArray) = ⟨#[]⟩ := by rw [nm_none a0 h]
    have HNB := hide hnb
    clear hnb
    go_enter Try.func4, Try.ntmps4
    go_wp2_with fail
    refine (namek_any a0 _ _ HNB.out).mono ?_
    rintro e w1 ⟨rfl, rfl⟩
    go_wp2_with fail
    refine (rnamek_any a0 _ _ HNB.out).mono ?_
    rintro e w1 ⟨rfl, rfl⟩
    rcases wyL_cases a1.toList with hz | ⟨k, hk, hk5, hkn⟩
    · go_wp2_with fail
      refine (wayk_any a1 _ 0 hz).mono ?_
      rintro e w1 ⟨rfl, rfl⟩
      go_wp2_with fail
      refine (rwayk_any a1 _ 0 hz).mono ?_
      rintro e w1 ⟨rfl, rfl⟩
      go_wp2_with fail
      refine (awake17_any _).mono ?_
      rintro e w1 ⟨rfl, hb⟩
      go_wp2
      go_ret
      exact ⟨rfl, hb⟩
    · have hs : (⟨(nmL k).toArray⟩ : ByteArray) = a1 := by rw [hkn, Go.ByteArray.toList_eq]
      have hne : (k == 0) = false := by simp; omega
      have HK := hide hk
      have HS := hide hs
      clear hk hkn hs
      go_wp2_with fail
      refine (wayk_any a1 _ k HK.out).mono ?_
      rintro e w1 ⟨rfl, rfl⟩
      go_wp2_with fail
      refine (namek_any k a1 _ HS.out).mono ?_
      rintro e w1 ⟨rfl, rfl⟩
      go_wp2_with fail
      refine (awake17_any _).mono ?_
      rintro e w1 ⟨rfl, hb⟩
      go_wp2
      go_ret
      exact ⟨rfl, hb⟩

set_option maxRecDepth 100000 in
theorem lifted (os : Os) (started : os.Started) (H : Type) (enc : TypeId × Value → H) :
    ReturnsInHanded {} Try.checked os 4 .any (Rows.casingNamesSpec.pre6 enc Try.prog Try.f4 Rows.casingNamesRow.domain false) (Rows.casingNamesSpec.post enc Try.prog Try.f4 false true false false) := by
  refine returnsInHanded_of_change (C := Try.checked) own started (by kernel_rfl) Try.func4
    (ChangeSpec.witness6 (enc := enc) (C := Try.checked) false ⟨#[], #[.int .i64 0, .string ByteArray.empty], []⟩ 8 (by kernel_rfl) (by kernel_rfl) (by kernel_rfl) (by kernel_rfl)) ?_
  intro W base args ds gs before hval0 hW hcnd _
  have hval : ∀ (j : Nat) t v, Try.f4.params[j]? = some t → args[j]? = some v → Value.okWide Try.prog W .any base t v := hval0
  have hW' := hW
  obtain ⟨p, q, hA0, hV, rfl, hfz, hnd⟩ := hW
  have hA : DataW.TrodAll enc Try.prog W 0 (fun _ => true) true Try.f4.params.toList args.toList ds p := hA0
  rw [Try.params4] at hA hval
  obtain ⟨v0, vs0, d0, ds0, p0, q0, hargs, rfl, rfl, h0, r0⟩ := trodAll_cons hA
  obtain ⟨v1, vs1, d1, ds1, p1, q1, rfl, rfl, rfl, h1, r1⟩ := trodAll_cons r0
  obtain ⟨rfl, rfl, rfl⟩ := trodAll_nil r1
  obtain rfl : args = #[v0, v1] := by cases args; simp_all
  obtain ⟨rfl, rfl⟩ := trodVars_none hV
  have k0 := h0
  have lt0 : ∀ x ∈ p0, x.block < W.heap.size := by obtain ⟨m, hm⟩ := k0; exact DataW.trod_lt m _ _ _ hm
  obtain ⟨a0, rfl, hd0, hp0, w0⟩ := open_int Try.underlying3 (hval 0 3 v0 rfl rfl) h0
  have k1 := h1
  have lt1 : ∀ x ∈ p1, x.block < W.heap.size := by obtain ⟨m, hm⟩ := k1; exact DataW.trod_lt m _ _ _ hm
  obtain ⟨a1, rfl, hd1, hp1, w1⟩ := open_string Try.underlying9 (hval 1 9 v1 rfl rfl) h1
  clear hA0 hval0
  refine (walk a0 a1 W w0 w1).mono fun e W' ⟨he, bel⟩ => ?_
  subst he
  exact ⟨_, rfl, _, _, _, [], _, [], hW', trodAll_mk1 (shut_bool Try.underlying4 _), (trodAll_cons_mk (Below.trod laidOut (by kernel_rfl) (of_decide_eq_true (by kernel_rfl)) k0 bel lt0) (trodAll_cons_mk (Below.trod laidOut (by kernel_rfl) (of_decide_eq_true (by kernel_rfl)) k1 bel lt1) trodAll_mk0)), rfl, bel.frame _, fun h => by cases h⟩

theorem over : Rows.casingNamesRow.holds Try.pinned (OpenSpec.ofChange Rows.casingNamesSpec) :=
  OpenClaim.holds_of_wide 4 Try.f4 rfl rfl rfl rfl rfl rfl rfl ⟨rfl, rfl, rfl, rfl, rfl⟩ rfl rfl rfl rfl rfl (by kernel_rfl) Try.func4 (by kernel_rfl)
    (of_decide_eq_true (by kernel_rfl)) (by unfold Func.isWrapper; first | (rw [if_pos (by decide +kernel)]; kernel_rfl) | (rw [if_neg (by decide +kernel)]; exact ⟨rfl, rfl⟩))
    (fun os started H enc _ => lifted os started H enc)

theorem proved : Rows.CasingNamesSaid := over
end Go.Proofs.Ytipbfldiacbfaaa.casingNames
