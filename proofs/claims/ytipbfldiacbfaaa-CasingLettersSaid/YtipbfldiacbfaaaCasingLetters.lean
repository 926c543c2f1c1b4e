/- Up, Down and Cap keep how long a text is, and all that is no letter; turned twice they are as turned once; Up of Down is Up. Conditions: none beyond the form's own. -/
import Derived.Test.YtipbfldiacbfaaaRows
import Derived.Test.YtipbfldiacbfaaaArgs
import Derived.Test.YtipbfldiacbfaaaCasingB
import Derived.Deep.QuietTactic
import Derived.BigQuiet
namespace Go.Proofs.Ytipbfldiacbfaaa.casingLetters
open Go.Proofs.Ytipbfldiacbfaaa
open Go.ChangeShapes Go.WideShapes Go.ChangeAt Go.RowKit Go.Deep
open Go.ChangeMaps (open_string shut_string)
set_option linter.unusedVariables false

theorem own : ownKnob Try.prog.godebug = none := by kernel_rfl
theorem laidOut : laidOutB Try.prog = true := by kernel_rfl
-- opt: 40000000
theorem turnx_any (s : ByteArray) (way : Int) (X : ByteArray) (e0 : Int) (w : World) (hs : s.size ≤ 1000000) (hl : (⟨(turnL way s.data.toList).toArray⟩ : ByteArray) = X) (he : turnE way = e0) :
    Calls Try.prog 9 #[.string s, .int .i64 way] w fun e w' => e = .returned (.tuple #[.string X, .int .i64 e0]) ∧ Below w.heap.size w w' := by
  rw [← hl, ← he]; exact turn_any s way w hs
theorem up_up : ∀ n : Fin 256, upB (upB (UInt8.ofNat n.val)) = upB (UInt8.ofNat n.val) ∧ upB (downB (UInt8.ofNat n.val)) = upB (UInt8.ofNat n.val) := by decide +kernel
theorem of_fin (c : UInt8) : UInt8.ofNat (⟨c.toNat, c.toNat_lt⟩ : Fin 256).val = c := by simp
theorem upup (c : UInt8) : upB (upB c) = upB c := by have := (up_up ⟨c.toNat, c.toNat_lt⟩).1; rwa [of_fin] at this
theorem updown (c : UInt8) : upB (downB c) = upB c := by have := (up_up ⟨c.toNat, c.toNat_lt⟩).2; rwa [of_fin] at this
theorem bits_fin : ∀ n : Fin 256, (65 ≤ n.val ∧ n.val ≤ 90 ∨ 97 ≤ n.val ∧ n.val ≤ 122) → bits .and .u8 (n.val : Int) 223 = ((upB (UInt8.ofNat n.val)).toNat : Int) ∧ bits .or .u8 (n.val : Int) 32 = ((downB (UInt8.ofNat n.val)).toNat : Int) := by decide +kernel
theorem bits_let (c : UInt8) (h : 65 ≤ c.toNat ∧ c.toNat ≤ 90 ∨ 97 ≤ c.toNat ∧ c.toNat ≤ 122) : bits .and .u8 (c.toNat : Int) 223 = ((upB c).toNat : Int) ∧ bits .or .u8 (c.toNat : Int) 32 = ((downB c).toNat : Int) := by
  have := bits_fin ⟨c.toNat, c.toNat_lt⟩ h
  rwa [of_fin] at this
theorem plain_fin : ∀ n : Fin 256, ¬ (65 ≤ n.val ∧ n.val ≤ 90 ∨ 97 ≤ n.val ∧ n.val ≤ 122) → upB (UInt8.ofNat n.val) = UInt8.ofNat n.val ∧ downB (UInt8.ofNat n.val) = UInt8.ofNat n.val := by decide +kernel
theorem plain_let (c : UInt8) (h : ¬ (65 ≤ c.toNat ∧ c.toNat ≤ 90 ∨ 97 ≤ c.toNat ∧ c.toNat ≤ 122)) : upB c = c ∧ downB c = c := by
  have := plain_fin ⟨c.toNat, c.toNat_lt⟩ h
  rwa [of_fin] at this
theorem mk_size (l : List UInt8) : (⟨l.toArray⟩ : ByteArray).size = l.length := by show l.toArray.size = _; simp
theorem mk_get (l : List UInt8) (X : ByteArray) (h : (⟨l.toArray⟩ : ByteArray) = X) (k : Nat) (hk : k < X.size) (c : UInt8) (hc : l[k]? = some c) : X[k] = c := by
  subst h
  show l.toArray[k] = c
  have h1 : k < l.length := by rwa [mk_size] at hk
  simp only [List.getElem_toArray]
  rw [List.getElem?_eq_getElem h1] at hc
  exact Option.some.inj hc
theorem cap_at (f : UInt8 → UInt8) (l : List UInt8) (k : Nat) (hk : k < l.length) : (capL f l)[k]? = some (if k = 0 then f l[k] else l[k]) := by
  cases l with
  | nil => simp at hk
  | cons c r =>
    cases k with
    | zero => rfl
    | succ k => simp at hk; simp [capL, List.getElem?_eq_getElem hk]
theorem cap_len (f : UInt8 → UInt8) (l : List UInt8) : (capL f l).length = l.length := by cases l <;> rfl
set_option maxRecDepth 100000 in
set_option maxHeartbeats 40000000 in
theorem walk (a0 : ByteArray) (w : World) (w0 : a0.size ≤ maxLen) :
    Calls Try.prog 5 #[.string a0] w fun e w' => e = .returned (.bool true) ∧ Below w.heap.size w w' := by
  by_cases hs : a0.size ≤ 200
  · obtain ⟨U, hU⟩ : ∃ U : ByteArray, (⟨(turnL 1 a0.data.toList).toArray⟩ : ByteArray) = U := ⟨_, rfl⟩
    obtain ⟨D, hD⟩ : ∃ D : ByteArray, (⟨(turnL 2 a0.data.toList).toArray⟩ : ByteArray) = D := ⟨_, rfl⟩
    obtain ⟨C, hC⟩ : ∃ C : ByteArray, (⟨(turnL 3 a0.data.toList).toArray⟩ : ByteArray) = C := ⟨_, rfl⟩
    have hU2 : (⟨(turnL 1 U.data.toList).toArray⟩ : ByteArray) = U := by
      subst hU
      show (⟨((a0.data.toList.map upB).map upB).toArray⟩ : ByteArray) = ⟨(a0.data.toList.map upB).toArray⟩
      rw [List.map_map, show (upB ∘ upB) = upB from funext upup]
    have hD2 : (⟨(turnL 1 D.data.toList).toArray⟩ : ByteArray) = U := by
      subst hU hD
      show (⟨((a0.data.toList.map downB).map upB).toArray⟩ : ByteArray) = ⟨(a0.data.toList.map upB).toArray⟩
      rw [List.map_map, show (upB ∘ downB) = upB from funext updown]
    have sU : U.size = a0.size := by rw [← hU, mk_size]; show (a0.data.toList.map upB).length = _; simp
    have sD : D.size = a0.size := by rw [← hD, mk_size]; show (a0.data.toList.map downB).length = _; simp
    have sC : C.size = a0.size := by rw [← hC, mk_size]; show (capL upB a0.data.toList).length = _; rw [cap_len]; simp
    have gU : ∀ k (hk : k < a0.size), U[k]'(by omega) = upB a0[k] := fun k hk => mk_get _ U hU k (by omega) _ (by
      show (a0.data.toList.map upB)[k]? = _
      rw [List.getElem?_map, List.getElem?_eq_getElem (by simpa using hk)]; rfl)
    have gD : ∀ k (hk : k < a0.size), D[k]'(by omega) = downB a0[k] := fun k hk => mk_get _ D hD k (by omega) _ (by
      show (a0.data.toList.map downB)[k]? = _
      rw [List.getElem?_map, List.getElem?_eq_getElem (by simpa using hk)]; rfl)
    have gC : ∀ k (hk : k < a0.size), C[k]'(by omega) = if k = 0 then upB a0[k] else a0[k] := fun k hk => mk_get _ C hC k (by omega) _ (by
      show (capL upB a0.data.toList)[k]? = _
      rw [cap_at upB _ k (by simpa using hk)]; rfl)
    have HU := hide hU
    have HD := hide hD
    have HC := hide hC
    have HU2 := hide hU2
    have HD2 := hide hD2
    have HGU := hide gU
    have HGD := hide gD
    have HGC := hide gC
    clear hU hD hC hU2 hD2 gU gD gC
    go_enter Try.func5, Try.ntmps5
    go_wp2_with fail
    refine (turnx_any a0 1 U 0 _ (by omega) HU.out rfl).mono ?_
    rintro e w1 ⟨rfl, hb1⟩
    go_wp2_with fail
    refine (turnx_any a0 2 D 0 _ (by omega) HD.out rfl).mono ?_
    rintro e w2 ⟨rfl, hb2⟩
    go_wp2_with fail
    refine (turnx_any a0 3 C 0 _ (by omega) HC.out rfl).mono ?_
    rintro e w3 ⟨rfl, hb3⟩
    go_wp2_with fail
    refine (turnx_any U 1 U 0 _ (by omega) HU2.out rfl).mono ?_
    rintro e w4 ⟨rfl, hb4⟩
    go_wp2_with fail
    refine (turnx_any D 1 U 0 _ (by omega) HD2.out rfl).mono ?_
    rintro e w5 ⟨rfl, hb5⟩
    go_wp2
    go_loopw [13] (fun i wr => ∃ (k m : Nat), k ≤ a0.size ∧ i = .int .i64 k ∧ wr = w5.drewN m)
      (fun i _ => a0.size - (intOf i).toNat)
    case atStart => exact ⟨0, 0, Nat.zero_le _, rfl, rfl⟩
    case round =>
      obtain ⟨k, m, hk, rfl, rfl⟩ := hrel
      by_cases hlt : k < a0.size
      · have hsU : k < U.size := by omega
        have hsD : k < D.size := by omega
        have hsC : k < C.size := by omega
        have hu : U[k] = upB a0[k] := HGU.out k hlt
        have hd : D[k] = downB a0[k] := HGD.out k hlt
        have hc : C[k] = if k = 0 then upB a0[k] else a0[k] := HGC.out k hlt
        have h256 : (a0[k].toNat : Int) < 256 := by have := a0[k].toNat_lt; omega
        by_cases hL : 65 ≤ a0[k].toNat ∧ a0[k].toNat ≤ 90 ∨ 97 ≤ a0[k].toNat ∧ a0[k].toNat ≤ 122
        · obtain ⟨hx, hy⟩ := bits_let a0[k] hL
          by_cases hR : a0[k].toNat ≤ 90
          · have d1 : decide ((97 : Int) ≤ (a0[k].toNat : Int)) = false := by simp; omega
            have d3 : decide ((65 : Int) ≤ (a0[k].toNat : Int)) = true := by simp; omega
            have d4 : decide ((a0[k].toNat : Int) ≤ 90) = true := by simp; omega
            by_cases hz : k = 0
            · subst hz
              rw [if_pos rfl] at hc
              have e0 : (((0 : Nat) : Int) == 0) = true := rfl
              go_wp2
              go_quiet (fail)
              go_wp2
              refine ⟨?_, by simp [intOf]; omega⟩
              first
                | exact ⟨0 + 1, _, by omega, by go_num, rfl⟩
                | ((repeat apply Exists.intro); exact ⟨⟨0 + 1, _, by omega, by go_num, rfl⟩, rfl⟩)
            · rw [if_neg hz] at hc
              have e0 : ((k : Int) == 0) = false := by simp; omega
              have e1 : decide ((0 : Int) < (k : Int)) = true := by simp; omega
              have e2 : decide (0 < k) = true := by simp; omega
              go_wp2
              go_quiet (fail)
              go_wp2
              refine ⟨?_, by simp [intOf]; omega⟩
              first
                | exact ⟨k + 1, _, by omega, by go_num, rfl⟩
                | ((repeat apply Exists.intro); exact ⟨⟨k + 1, _, by omega, by go_num, rfl⟩, rfl⟩)
          · have d1 : decide ((97 : Int) ≤ (a0[k].toNat : Int)) = true := by simp; omega
            have d2 : decide ((a0[k].toNat : Int) ≤ 122) = true := by simp; omega
            by_cases hz : k = 0
            · subst hz
              rw [if_pos rfl] at hc
              have e0 : (((0 : Nat) : Int) == 0) = true := rfl
              go_wp2
              go_quiet (fail)
              go_wp2
              refine ⟨?_, by simp [intOf]; omega⟩
              first
                | exact ⟨0 + 1, _, by omega, by go_num, rfl⟩
                | ((repeat apply Exists.intro); exact ⟨⟨0 + 1, _, by omega, by go_num, rfl⟩, rfl⟩)
            · rw [if_neg hz] at hc
              have e0 : ((k : Int) == 0) = false := by simp; omega
              have e1 : decide ((0 : Int) < (k : Int)) = true := by simp; omega
              have e2 : decide (0 < k) = true := by simp; omega
              go_wp2
              go_quiet (fail)
              go_wp2
              refine ⟨?_, by simp [intOf]; omega⟩
              first
                | exact ⟨k + 1, _, by omega, by go_num, rfl⟩
                | ((repeat apply Exists.intro); exact ⟨⟨k + 1, _, by omega, by go_num, rfl⟩, rfl⟩)
        · obtain ⟨hx, hy⟩ := plain_let a0[k] hL
          rw [hx] at hu hc
          rw [hy] at hd
          clear hx hy
          have hcc : C[k] = a0[k] := by rw [hc]; split <;> rfl
          clear hc
          by_cases r1 : a0[k].toNat < 65
          · have d1 : decide ((97 : Int) ≤ (a0[k].toNat : Int)) = false := by simp; omega
            have d3 : decide ((65 : Int) ≤ (a0[k].toNat : Int)) = false := by simp; omega
            by_cases hz : k = 0
            · subst hz
              have e0 : (((0 : Nat) : Int) == 0) = true := rfl
              go_wp2
              go_quiet (fail)
              go_wp2
              refine ⟨?_, by simp [intOf]; omega⟩
              first
                | exact ⟨0 + 1, _, by omega, by go_num, rfl⟩
                | ((repeat apply Exists.intro); exact ⟨⟨0 + 1, _, by omega, by go_num, rfl⟩, rfl⟩)
            · have e0 : ((k : Int) == 0) = false := by simp; omega
              have e1 : decide ((0 : Int) < (k : Int)) = true := by simp; omega
              have e2 : decide (0 < k) = true := by simp; omega
              go_wp2
              go_quiet (fail)
              go_wp2
              refine ⟨?_, by simp [intOf]; omega⟩
              first
                | exact ⟨k + 1, _, by omega, by go_num, rfl⟩
                | ((repeat apply Exists.intro); exact ⟨⟨k + 1, _, by omega, by go_num, rfl⟩, rfl⟩)
          · by_cases r2 : a0[k].toNat < 97
            · have d1 : decide ((97 : Int) ≤ (a0[k].toNat : Int)) = false := by simp; omega
              have d3 : decide ((65 : Int) ≤ (a0[k].toNat : Int)) = true := by simp; omega
              have d4 : decide ((a0[k].toNat : Int) ≤ 90) = false := by simp; omega
              by_cases hz : k = 0
              · subst hz
                have e0 : (((0 : Nat) : Int) == 0) = true := rfl
                go_wp2
                go_quiet (fail)
                go_wp2
                refine ⟨?_, by simp [intOf]; omega⟩
                first
                  | exact ⟨0 + 1, _, by omega, by go_num, rfl⟩
                  | ((repeat apply Exists.intro); exact ⟨⟨0 + 1, _, by omega, by go_num, rfl⟩, rfl⟩)
              · have e0 : ((k : Int) == 0) = false := by simp; omega
                have e1 : decide ((0 : Int) < (k : Int)) = true := by simp; omega
                have e2 : decide (0 < k) = true := by simp; omega
                go_wp2
                go_quiet (fail)
                go_wp2
                refine ⟨?_, by simp [intOf]; omega⟩
                first
                  | exact ⟨k + 1, _, by omega, by go_num, rfl⟩
                  | ((repeat apply Exists.intro); exact ⟨⟨k + 1, _, by omega, by go_num, rfl⟩, rfl⟩)
            · have d1 : decide ((97 : Int) ≤ (a0[k].toNat : Int)) = true := by simp; omega
              have d2 : decide ((a0[k].toNat : Int) ≤ 122) = false := by simp; omega
              have d3 : decide ((65 : Int) ≤ (a0[k].toNat : Int)) = true := by simp; omega
              have d4 : decide ((a0[k].toNat : Int) ≤ 90) = false := by simp; omega
              by_cases hz : k = 0
              · subst hz
                have e0 : (((0 : Nat) : Int) == 0) = true := rfl
                go_wp2
                go_quiet (fail)
                go_wp2
                refine ⟨?_, by simp [intOf]; omega⟩
                first
                  | exact ⟨0 + 1, _, by omega, by go_num, rfl⟩
                  | ((repeat apply Exists.intro); exact ⟨⟨0 + 1, _, by omega, by go_num, rfl⟩, rfl⟩)
              · have e0 : ((k : Int) == 0) = false := by simp; omega
                have e1 : decide ((0 : Int) < (k : Int)) = true := by simp; omega
                have e2 : decide (0 < k) = true := by simp; omega
                go_wp2
                go_quiet (fail)
                go_wp2
                refine ⟨?_, by simp [intOf]; omega⟩
                first
                  | exact ⟨k + 1, _, by omega, by go_num, rfl⟩
                  | ((repeat apply Exists.intro); exact ⟨⟨k + 1, _, by omega, by go_num, rfl⟩, rfl⟩)
      · go_wp2_with fail
        refine (awake17_any _).mono ?_
        rintro e w6 ⟨rfl, hb6⟩
        go_wp2
        go_ret
        exact ⟨rfl, bl_trans (bl_drewN (bl_trans (bl_trans (bl_trans (bl_trans hb1 hb2) hb3) hb4) hb5) _) hb6⟩
  · go_enter Try.func5, Try.ntmps5
    go_wp2_with fail
    refine (awake17_any _).mono ?_
    rintro e w1 ⟨rfl, hb1⟩
    go_wp2
    go_ret
    exact ⟨rfl, hb1⟩

set_option maxRecDepth 100000 in
theorem lifted (os : Os) (started : os.Started) (H : Type) (enc : TypeId × Value → H) :
    ReturnsInHanded {} Try.checked os 5 .any (Rows.casingLettersSpec.pre6 enc Try.prog Try.f5 Rows.casingLettersRow.domain false) (Rows.casingLettersSpec.post enc Try.prog Try.f5 false true false false) := by
  refine returnsInHanded_of_change (C := Try.checked) own started (by kernel_rfl) Try.func5
    (ChangeSpec.witness6 (enc := enc) (C := Try.checked) false ⟨#[], #[.string ByteArray.empty], []⟩ 8 (by kernel_rfl) (by kernel_rfl) (by kernel_rfl) (by kernel_rfl)) ?_
  intro W base args ds gs before hval0 hW hcnd _
  have hval : ∀ (j : Nat) t v, Try.f5.params[j]? = some t → args[j]? = some v → Value.okWide Try.prog W .any base t v := hval0
  have hW' := hW
  obtain ⟨p, q, hA0, hV, rfl, hfz, hnd⟩ := hW
  have hA : DataW.TrodAll enc Try.prog W 0 (fun _ => true) true Try.f5.params.toList args.toList ds p := hA0
  rw [Try.params5] at hA hval
  obtain ⟨v0, vs0, d0, ds0, p0, q0, hargs, rfl, rfl, h0, r0⟩ := trodAll_cons hA
  obtain ⟨rfl, rfl, rfl⟩ := trodAll_nil r0
  obtain rfl : args = #[v0] := by cases args; simp_all
  obtain ⟨rfl, rfl⟩ := trodVars_none hV
  have k0 := h0
  have lt0 : ∀ x ∈ p0, x.block < W.heap.size := by obtain ⟨m, hm⟩ := k0; exact DataW.trod_lt m _ _ _ hm
  obtain ⟨a0, rfl, hd0, hp0, w0⟩ := open_string Try.underlying9 (hval 0 9 v0 rfl rfl) h0
  clear hA0 hval0
  refine (walk a0 W w0).mono fun e W' ⟨he, bel⟩ => ?_
  subst he
  exact ⟨_, rfl, _, _, _, [], _, [], hW', trodAll_mk1 (shut_bool Try.underlying4 _), (trodAll_cons_mk (Below.trod laidOut (by kernel_rfl) (of_decide_eq_true (by kernel_rfl)) k0 bel lt0) trodAll_mk0), rfl, bel.frame _, fun h => by cases h⟩

theorem over : Rows.casingLettersRow.holds Try.pinned (OpenSpec.ofChange Rows.casingLettersSpec) :=
  OpenClaim.holds_of_wide 5 Try.f5 rfl rfl rfl rfl rfl rfl rfl ⟨rfl, rfl, rfl, rfl, rfl⟩ rfl rfl rfl rfl rfl (by kernel_rfl) Try.func5 (by kernel_rfl)
    (of_decide_eq_true (by kernel_rfl)) (by unfold Func.isWrapper; first | (rw [if_pos (by decide +kernel)]; kernel_rfl) | (rw [if_neg (by decide +kernel)]; exact ⟨rfl, rfl⟩))
    (fun os started H enc _ => lifted os started H enc)

theorem proved : Rows.CasingLettersSaid := over
end Go.Proofs.Ytipbfldiacbfaaa.casingLetters
