/- Folded is as long, and folded for good; what is one of A to Z is 32 more, all else is as it was. Conditions: none beyond the form's own. -/
import Derived.Test.YtodnnhhlpinpbaaRows
import Derived.Test.YtodnnhhlpinpbaaArgs
import Derived.Test.YtodnnhhlpinpbaaChar
import Derived.Deep.QuietTactic
import Derived.BigQuiet
namespace Go.Proofs.Ytodnnhhlpinpbaa.charFold
open Go.Proofs.Ytodnnhhlpinpbaa
open Go.ChangeShapes Go.WideShapes Go.ChangeAt Go.RowKit Go.Deep
open Go.ChangeMaps (open_string shut_string)
set_option linter.unusedVariables false

theorem own : ownKnob Try.prog.godebug = none := by kernel_rfl
theorem laidOut : laidOutB Try.prog = true := by kernel_rfl
-- opt: 8000000
theorem dd_fin : ∀ n : Fin 256, downB (downB (UInt8.ofNat n.val)) = downB (UInt8.ofNat n.val) := by decide +kernel
theorem of_fin (c : UInt8) : UInt8.ofNat (⟨c.toNat, c.toNat_lt⟩ : Fin 256).val = c := by simp
theorem dd (c : UInt8) : downB (downB c) = downB c := by have := dd_fin ⟨c.toNat, c.toNat_lt⟩; rwa [of_fin] at this
theorem mk_get (l : List UInt8) (X : ByteArray) (h : (⟨l.toArray⟩ : ByteArray) = X) (k : Nat) (hk : k < X.size) (c : UInt8) (hc : l[k]? = some c) : X[k] = c := by
  subst h
  show l.toArray[k] = c
  have h1 : k < l.length := by
    have h2 : (⟨l.toArray⟩ : ByteArray).size = l.length := by show l.toArray.size = _; simp
    rwa [h2] at hk
  simp only [List.getElem_toArray]
  rw [List.getElem?_eq_getElem h1] at hc
  exact Option.some.inj hc
set_option maxRecDepth 100000 in
set_option maxHeartbeats 8000000 in
theorem walk (a0 : ByteArray) (w : World) (w0 : a0.size ≤ maxLen) :
    Calls Try.prog 7 #[.string a0] w fun e w' => e = .returned (.bool true) ∧ Below w.heap.size w w' := by
  by_cases hs : a0.size ≤ 200
  · obtain ⟨X, hX⟩ : ∃ X, mapS downB a0 = X := ⟨_, rfl⟩
    have hXX : mapS downB X = X := by
      rw [← hX]
      show (⟨((a0.data.toList.map downB).map downB).toArray⟩ : ByteArray) = ⟨(a0.data.toList.map downB).toArray⟩
      rw [List.map_map, show (downB ∘ downB) = downB from funext dd]
    have sX : X.size = a0.size := by rw [← hX]; show (a0.data.toList.map downB).toArray.size = _; simp
    have gX : ∀ k (hk : k < a0.size), (X[k]'(by omega)) = downB a0[k] := fun k hk => mk_get (a0.data.toList.map downB) X hX k (by omega) _ (by
      rw [List.getElem?_map, List.getElem?_eq_getElem (by simpa using hk)]; rfl)
    have HX := hide hX
    have HXX := hide hXX
    have HG := hide gX
    clear hX hXX gX
    go_enter Try.func7, Try.ntmps7
    go_wp2_with fail
    refine (folde_any a0 X _ (by omega) HX.out).mono ?_
    rintro e w1 ⟨rfl, hb1⟩
    go_wp2_with fail
    refine (folde_any X X _ (by omega) HXX.out).mono ?_
    rintro e w2 ⟨rfl, hb2⟩
    go_wp2
    go_loopw [4] (fun i wr => ∃ (k m : Nat), k ≤ a0.size ∧ i = .int .i64 k ∧ wr = w2.drewN m)
      (fun i _ => a0.size - (intOf i).toNat)
    case atStart => exact ⟨0, 0, Nat.zero_le _, rfl, rfl⟩
    case round =>
      obtain ⟨k, m, hk, rfl, rfl⟩ := hrel
      by_cases hlt : k < a0.size
      · have hkX : k < X.size := by omega
        have hx : X[k] = downB a0[k] := HG.out k hlt
        have h256 : (a0[k].toNat : Int) < 256 := by have := a0[k].toNat_lt; omega
        have hdn := downB_nat a0[k]
        by_cases r1 : a0[k].toNat < 65
        · have hx2 : X[k] = a0[k] := by rw [hx]; apply UInt8.toNat_inj.1; rw [hdn, if_neg (by omega)]
          have d1 : decide ((65 : Int) ≤ (a0[k].toNat : Int)) = false := by simp; omega
          clear hx hdn
          go_wp2
          go_quiet (fail)
          go_wp2
          refine ⟨?_, by first | (simp [intOf]; done) | (simp [intOf]; omega)⟩
          first
            | exact ⟨k + 1, _, by omega, by go_num, rfl⟩
            | ((repeat apply Exists.intro); exact ⟨⟨k + 1, _, by omega, by go_num, rfl⟩, rfl⟩)
        · by_cases r2 : a0[k].toNat ≤ 90
          · have d1 : decide ((65 : Int) ≤ (a0[k].toNat : Int)) = true := by simp; omega
            have d2 : decide ((a0[k].toNat : Int) ≤ 90) = true := by simp; omega
            have hx3 : (X[k].toNat : Int) = (a0[k].toNat : Int) + 32 := by rw [hx, hdn, if_pos (by omega)]; omega
            clear hx hdn
            go_wp2
            go_quiet (fail)
            go_wp2
            refine ⟨?_, by first | (simp [intOf]; done) | (simp [intOf]; omega)⟩
            first
              | exact ⟨k + 1, _, by omega, by go_num, rfl⟩
              | ((repeat apply Exists.intro); exact ⟨⟨k + 1, _, by omega, by go_num, rfl⟩, rfl⟩)
          · have hx2 : X[k] = a0[k] := by rw [hx]; apply UInt8.toNat_inj.1; rw [hdn, if_neg (by omega)]
            have d1 : decide ((65 : Int) ≤ (a0[k].toNat : Int)) = true := by simp; omega
            have d2 : decide ((a0[k].toNat : Int) ≤ 90) = false := by simp; omega
            clear hx hdn
            go_wp2
            go_quiet (fail)
            go_wp2
            refine ⟨?_, by first | (simp [intOf]; done) | (simp [intOf]; omega)⟩
            first
              | exact ⟨k + 1, _, by omega, by go_num, rfl⟩
              | ((repeat apply Exists.intro); exact ⟨⟨k + 1, _, by omega, by go_num, rfl⟩, rfl⟩)
      · go_wp2_with fail
        refine (awake11_any _).mono ?_
        rintro e w6 ⟨rfl, hb6⟩
        go_wp2
        go_ret
        exact ⟨rfl, bl_trans (bl_drewN (bl_trans hb1 hb2) _) hb6⟩
  · go_enter Try.func7, Try.ntmps7
    go_wp2_with fail
    refine (awake11_any _).mono ?_
    rintro e w1 ⟨rfl, hb1⟩
    go_wp2
    go_ret
    exact ⟨rfl, hb1⟩

set_option maxRecDepth 100000 in
theorem lifted (os : Os) (started : os.Started) (H : Type) (enc : TypeId × Value → H) :
    ReturnsInHanded {} Try.checked os 7 .any (Rows.charFoldSpec.pre6 enc Try.prog Try.f7 Rows.charFoldRow.domain false) (Rows.charFoldSpec.post enc Try.prog Try.f7 false true false false) := by
  refine returnsInHanded_of_change (C := Try.checked) own started (by kernel_rfl) Try.func7
    (ChangeSpec.witness6 (enc := enc) (C := Try.checked) false ⟨#[], #[.string ByteArray.empty], []⟩ 8 (by kernel_rfl) (by kernel_rfl) (by kernel_rfl) (by kernel_rfl)) ?_
  intro W base args ds gs before hval0 hW hcnd _
  have hval : ∀ (j : Nat) t v, Try.f7.params[j]? = some t → args[j]? = some v → Value.okWide Try.prog W .any base t v := hval0
  have hW' := hW
  obtain ⟨p, q, hA0, hV, rfl, hfz, hnd⟩ := hW
  have hA : DataW.TrodAll enc Try.prog W 0 (fun _ => true) true Try.f7.params.toList args.toList ds p := hA0
  rw [Try.params7] at hA hval
  obtain ⟨v0, vs0, d0, ds0, p0, q0, hargs, rfl, rfl, h0, r0⟩ := trodAll_cons hA
  obtain ⟨rfl, rfl, rfl⟩ := trodAll_nil r0
  obtain rfl : args = #[v0] := by cases args; simp_all
  obtain ⟨rfl, rfl⟩ := trodVars_none hV
  have k0 := h0
  have lt0 : ∀ x ∈ p0, x.block < W.heap.size := by obtain ⟨m, hm⟩ := k0; exact DataW.trod_lt m _ _ _ hm
  obtain ⟨a0, rfl, hd0, hp0, w0⟩ := open_string Try.underlying9 (hval 0 9 v0 rfl rfl) h0
  clear hA0 hval0
  refine (walk a0 W w0).mono fun e W' ⟨he, bel⟩ => ?_
  subst he
  exact ⟨_, rfl, _, _, _, [], _, [], hW', trodAll_mk1 (shut_bool Try.underlying4 _), (trodAll_cons_mk (Below.trod laidOut (by kernel_rfl) (of_decide_eq_true (by kernel_rfl)) k0 bel lt0) trodAll_mk0), rfl, bel.frame _, fun h => by cases h⟩

theorem over : Rows.charFoldRow.holds Try.pinned (OpenSpec.ofChange Rows.charFoldSpec) :=
  OpenClaim.holds_of_wide 7 Try.f7 rfl rfl rfl rfl rfl rfl rfl ⟨rfl, rfl, rfl, rfl, rfl⟩ rfl rfl rfl rfl rfl (by kernel_rfl) Try.func7 (by kernel_rfl)
    (of_decide_eq_true (by kernel_rfl)) (by unfold Func.isWrapper; first | (rw [if_pos (by decide +kernel)]; kernel_rfl) | (rw [if_neg (by decide +kernel)]; exact ⟨rfl, rfl⟩))
    (fun os started H enc _ => lifted os started H enc)

theorem proved : Rows.CharFoldSaid := over
end Go.Proofs.Ytodnnhhlpinpbaa.charFold
