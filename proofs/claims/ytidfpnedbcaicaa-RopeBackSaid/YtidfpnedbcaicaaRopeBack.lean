/- What is put in and taken away again, and what is cut off and joined again, leaves the text as it was. Conditions: none beyond the form's own. -/
import Derived.Test.YtidfpnedbcaicaaRows
import Derived.Test.YtidfpnedbcaicaaArgs
import Derived.Test.YtidfpnedbcaicaaRdEnd
namespace Go.Proofs.Ytidfpnedbcaicaa.ropeBack
open Go.Proofs.Ytidfpnedbcaicaa
open Go.ChangeShapes Go.WideShapes Go.ChangeAt Go.RowKit Go.Deep
open Go.ChangeMaps (open_string shut_string)
set_option linter.unusedVariables false

theorem own : ownKnob Try.prog.godebug = none := by kernel_rfl
theorem laidOut : laidOutB Try.prog = true := by kernel_rfl
-- opt:16000000
attribute [local go_sem ↓] Go.wp_at_zero Go.wp_at_succ
theorem back_eq (x c : ByteArray) (p : Nat) (h : p ≤ x.size) : (x.extract 0 p ++ c ++ x.extract p x.size).extract 0 p ++ (x.extract 0 p ++ c ++ x.extract p x.size).extract (p + c.size) (x.extract 0 p ++ c ++ x.extract p x.size).size = x := by
  apply str_ext
  rw [app_list, ext_take, ext_drop, app_list, app_list, ext_take, ext_drop]
  have h1 : (x.data.toList.take p).length = p := by rw [List.length_take]; have : x.data.toList.length = x.size := rfl; omega
  have h2 : (x.data.toList.take p ++ c.data.toList).length = p + c.size := by rw [List.length_append, h1]; rfl
  rw [List.drop_left' h2, List.append_assoc, List.take_left' h1, List.take_append_drop]
theorem cut_eq (x : ByteArray) (p : Nat) : x.extract 0 p ++ x.extract p x.size = x := str_ext (by rw [app_list, ext_take, ext_drop, List.take_append_drop])
set_option maxRecDepth 100000 in
set_option maxHeartbeats 16000000 in
theorem walk (a0 : Option Addr) (len0 cap0 : Nat) (z0 : List Int) (a1 : Value) (l1 : List De) (a2 : Int) (a3 : ByteArray) (w : World) (w0 : IsInts .u32 w a0 len0 cap0 z0) (w1 : DeAt w a1 l1) (b1 : ∀ d ∈ l1, WfDe d) (w2 : (Lit.int .i64 a2).wf = true) (w3 : a3.size ≤ maxLen) :
    Calls Try.prog 13 #[.slice a0 len0 cap0, a1, .int .i64 a2, .string a3] w fun e w' => e = .returned (.bool true) ∧ Below w.heap.size w w' := by
  have hl0 := deat_long w1
  have W2 := hide w1
  obtain ⟨aG, cG, rfl⟩ := deat_len w1
  have HI := hide w0
  clear w0 w1 b1
  by_cases h0 : len0 ≤ 20
  · have g0 : decide (20 < (len0 : Int)) = false := decide_eq_false (by omega)
    by_cases h3 : a3.size ≤ 200
    · have g3 : decide (200 < (a3.size : Int)) = false := decide_eq_false (by omega)
      go_enter Try.func13, Try.ntmps13
      go_wp2_with fail
      refine (much3_any 8 300 (by omega) _ l1 w W2.out hl0).mono ?_
      rintro e wa ⟨rr, rfl, hok, hwa⟩
      subst hwa
      cases rr
      case true =>
        clear hok
        go_wp2_with fail
        refine (awake3_any _).mono ?_
        rintro e w13 ⟨rfl, hb13⟩
        go_wp2
        go_ret
        exact ⟨rfl, hb13⟩
      case false =>
        obtain ⟨hn, hd⟩ := hok rfl
        have HD := hide hd
        clear hok hd
        go_wp2_with fail
        refine (rst_dnews (rst_start w) HI.out (by omega)).mono ?_
        rintro e w3 ⟨d, g, rfl, hR, hb3⟩
        have HN := hide (new_zero hR (d := d) (g := g) (by simp) none 0)
        clear hR
        go_wp2_with fail
        refine HN.out.mono ?_
        rintro e w4 ⟨r, t, rfl, _, htx, hR⟩
        have HT := hide htx
        have HR := hide hR
        clear htx hR HN
        go_wp2
        go_loopw [10, 12, 13] (fun r s i wr => DeInv l1.length 0 w d g s r i wr) (fun _ _ i _ => l1.length - (intOf i).toNat)
        case atStart => exact ⟨0, ⟨#[]⟩, r, t, rfl, rfl, rfl, Nat.zero_le _, by decide, HT, HR⟩
        case round =>
          obtain ⟨k, sv, rr, t, rfl, rfl, rfl, hk, hsz, HT, HR⟩ := hrel
          by_cases hlt : k < l1.length
          · have hDE := deat_below W2.out HR.out.bel
            obtain ⟨b1, o1, c1, hv1, hc1, hm1, hlb1, hcell1⟩ := deat_some hDE (by omega)
            injection hv1 with hv1 _ hv1c
            subst hv1 hv1c
            unfold maxLen at hm1
            obtain ⟨x0, x1, x2, x3⟩ := hcell1 k hlt
            have hdk := HD.out _ (List.getElem_mem hlt)
            clear hcell1 hDE
            generalize l1[k] = y at *
            obtain ⟨dk, da, db, dx⟩ := y
            simp only at x0 x1 x2 x3 hdk
            have HDO := hide (does_any HR.out (g := g) (by simp) HT.out dk da db dx (by omega))
            go_wp2_with fail
            refine HDO.out.mono ?_
            rintro e w5 ⟨s2, r2, t2, rfl, hs2, htx, hR⟩
            have HT2 := hide htx
            have HR2 := hide hR
            clear htx hR HDO HT HR x0 x1 x2 x3
            go_wp2
            refine ⟨?_, by first | (simp [intOf]; done) | (simp [intOf]; omega)⟩
            exact ⟨k + 1, s2, r2, t2, rfl, rfl, by go_num, by omega, by push_cast; omega, HT2, HR2⟩
          · obtain rfl : k = l1.length := by omega
            have HTX := hide (rst_text HR.out (r := rr) (d := d) (t := t) (by simp) HT.out (by omega))
            have hlp := lowN_lt a2 (sv.size + 1) (by omega)
            have HLW := hide (fun W => (low_any a2 (sv.size + 1) W (by omega) (by omega) : Calls Try.prog 23 #[.int .i64 a2, .int .i64 ((sv.size : Int) + 1)] W fun e w' => e = .returned (.int .i64 (lowN a2 (sv.size + 1) : Nat)) ∧ W = w'))
            generalize lowN a2 (sv.size + 1) = p at *
            have hp : p ≤ sv.size := by omega
            have hs8 : sv.size ≤ 8000 := by omega
            have hwp : IntKind.i64.wrap ((p : Int) + (a3.size : Int)) = (p : Int) + (a3.size : Int) := IntWalk.i64_in _ (by omega)
            clear hsz hlp hn
            go_wp2_with fail
            refine HTX.out.mono ?_
            rintro e w6 ⟨rfl, _, hR⟩
            have HI2 := hide (rst_insert hR (g := g) (by simp) HT.out p a3 hp (by omega))
            clear hR HTX HR
            go_wp2_with fail
            refine (HLW.out _).mono ?_
            rintro e w7 ⟨rfl, hw7⟩
            subst hw7
            go_wp2_with fail
            refine HI2.out.mono ?_
            rintro e w8 ⟨t1, rfl, htx, hR⟩
            have hz : (sv.extract 0 p ++ a3 ++ sv.extract p sv.size).size = sv.size + a3.size := by simp only [ByteArray.size_append, ByteArray.size_extract]; omega
            have hDE := rst_delete hR (g := g) (by simp) htx p (p + a3.size) (by omega) (by omega) (by omega)
            rw [back_eq _ _ _ hp] at hDE
            have HDE := hide hDE
            clear hDE hz htx hR HI2
            go_wp2_with fail
            refine HDE.out.mono ?_
            rintro e w9 ⟨t3, rfl, htx, hR⟩
            have HT := hide htx
            have HTX := hide (rst_text hR (r := rr) (d := d) (t := t3) (by simp) htx (by omega))
            clear htx hR HDE
            go_wp2_with fail
            refine HTX.out.mono ?_
            rintro e w10 ⟨rfl, _, hR⟩
            have HW := hide (rst_whole hR (r := rr) (d := d) (t := t3) (by simp) HT.out (by omega))
            clear hR HTX
            go_wp2_with fail
            refine HW.out.mono ?_
            rintro e w11 ⟨rfl, _, hR⟩
            have HC := hide (rst_cut hR (g := g) (by simp) HT.out p hp (by omega))
            clear hR HW
            go_wp2_with fail
            refine HC.out.mono ?_
            rintro e w12 ⟨o, u, v, rfl, hor, htu, htv, hR⟩
            have hz : (sv.extract 0 p).size + (sv.extract p sv.size).size ≤ 65536 := by simp only [ByteArray.size_extract]; omega
            have hJ := rst_join hR.swap (g := g) (by simp) htu htv hz
            rw [cut_eq] at hJ
            have HJ := hide hJ
            clear hJ hz htu htv hR HC
            go_wp2_with fail
            refine HJ.out.mono ?_
            rintro e w13 ⟨t4, rfl, htx, hR⟩
            have HT := hide htx
            have HTX := hide (rst_text hR (r := rr) (d := d) (t := t4) (by simp) htx (by omega))
            clear htx hR HJ
            go_wp2_with fail
            refine HTX.out.mono ?_
            rintro e w14 ⟨rfl, _, hR⟩
            have HW := hide (rst_whole hR (r := rr) (d := d) (t := t4) (by simp) HT.out (by omega))
            clear hR HTX
            go_wp2_with fail
            refine HW.out.mono ?_
            rintro e w15 ⟨rfl, _, hR⟩
            have HR := hide hR
            clear hR HW
            go_wp2_with fail
            refine (awake3_any _).mono ?_
            rintro e w16 ⟨rfl, hb16⟩
            have hb := bl_trans HR.out.bel hb16
            go_wp2
            go_ret
            exact ⟨rfl, hb⟩
    · have g3 : decide (200 < (a3.size : Int)) = true := decide_eq_true (by omega)
      go_enter Try.func13, Try.ntmps13
      go_wp2_with fail
      refine (much3_any 8 300 (by omega) _ l1 w W2.out hl0).mono ?_
      rintro e wa ⟨rr, rfl, hok, hwa⟩
      subst hwa
      clear hok
      cases rr
      all_goals
        go_wp2_with fail
        refine (awake3_any _).mono ?_
        rintro e w13 ⟨rfl, hb13⟩
        go_wp2
        go_ret
        exact ⟨rfl, hb13⟩
  · have g0 : decide (20 < (len0 : Int)) = true := decide_eq_true (by omega)
    go_enter Try.func13, Try.ntmps13
    go_wp2_with fail
    refine (awake3_any _).mono ?_
    rintro e w13 ⟨rfl, hb13⟩
    go_wp2
    go_ret
    exact ⟨rfl, hb13⟩

set_option maxRecDepth 100000 in
theorem lifted (os : Os) (started : os.Started) (H : Type) (enc : TypeId × Value → H) :
    ReturnsInHanded {} Try.checked os 13 .any (Rows.ropeBackSpec.pre6 enc Try.prog Try.f13 Rows.ropeBackRow.domain false) (Rows.ropeBackSpec.post enc Try.prog Try.f13 false true false false) := by
  refine returnsInHanded_of_change (C := Try.checked) own started (by kernel_rfl) Try.func13
    (ChangeSpec.witness6 (enc := enc) (C := Try.checked) false ⟨#[], #[.slice none 0 0, .slice none 0 0, .int .i64 0, .string ByteArray.empty], []⟩ 8 (by kernel_rfl) (by kernel_rfl) (by kernel_rfl) (by kernel_rfl)) ?_
  intro W base args ds gs before hval0 hW hcnd _
  have hval : ∀ (j : Nat) t v, Try.f13.params[j]? = some t → args[j]? = some v → Value.okWide Try.prog W .any base t v := hval0
  have hW' := hW
  obtain ⟨p, q, hA0, hV, rfl, hfz, hnd⟩ := hW
  have hA : DataW.TrodAll enc Try.prog W 0 (fun _ => true) true Try.f13.params.toList args.toList ds p := hA0
  rw [Try.params13] at hA hval
  obtain ⟨v0, vs0, d0, ds0, p0, q0, hargs, rfl, rfl, h0, r0⟩ := trodAll_cons hA
  obtain ⟨v1, vs1, d1, ds1, p1, q1, rfl, rfl, rfl, h1, r1⟩ := trodAll_cons r0
  obtain ⟨v2, vs2, d2, ds2, p2, q2, rfl, rfl, rfl, h2, r2⟩ := trodAll_cons r1
  obtain ⟨v3, vs3, d3, ds3, p3, q3, rfl, rfl, rfl, h3, r3⟩ := trodAll_cons r2
  obtain ⟨rfl, rfl, rfl⟩ := trodAll_nil r3
  obtain rfl : args = #[v0, v1, v2, v3] := by cases args; simp_all
  obtain ⟨rfl, rfl⟩ := trodVars_none hV
  have k0 := h0
  have lt0 : ∀ x ∈ p0, x.block < W.heap.size := by obtain ⟨m, hm⟩ := k0; exact DataW.trod_lt m _ _ _ hm
  obtain ⟨a0, len0, cap0, rfl⟩ := okWide_slice Try.underlying22 (hval 0 22 v0 rfl rfl)
  obtain ⟨z0, w0⟩ : ∃ zs, IsInts .u32 W a0 len0 cap0 zs := by
    obtain ⟨fuel, hf⟩ := h0
    rcases open_ints Try.underlying22 Try.underlying54 (by kernel_rfl) hf with ⟨hcs, _⟩ | ⟨x, l, c, zs, hcs, _, hl, hm, hz, _, hcell, hwz⟩
    · simp [Value.cells] at hcs
      obtain ⟨rfl, rfl, rfl⟩ := hcs
      exact ⟨[], .inl ⟨rfl, rfl, rfl, rfl⟩⟩
    · simp [Value.cells] at hcs
      obtain ⟨rfl, rfl, rfl⟩ := hcs
      exact ⟨zs, .inr ⟨_, rfl, hl, hm, by simpa using hz, hcell, hwz⟩⟩
  have k1 := h1
  have lt1 : ∀ x ∈ p1, x.block < W.heap.size := by obtain ⟨m, hm⟩ := k1; exact DataW.trod_lt m _ _ _ hm
  obtain ⟨l1, w1, b1⟩ := open_dees (hval 1 23 v1 rfl rfl) h1
  have k2 := h2
  have lt2 : ∀ x ∈ p2, x.block < W.heap.size := by obtain ⟨m, hm⟩ := k2; exact DataW.trod_lt m _ _ _ hm
  obtain ⟨a2, rfl, hd2, hp2, w2⟩ := open_int Try.underlying3 (hval 2 3 v2 rfl rfl) h2
  have k3 := h3
  have lt3 : ∀ x ∈ p3, x.block < W.heap.size := by obtain ⟨m, hm⟩ := k3; exact DataW.trod_lt m _ _ _ hm
  obtain ⟨a3, rfl, hd3, hp3, w3⟩ := open_string Try.underlying9 (hval 3 9 v3 rfl rfl) h3
  clear hA0 hval0
  refine (walk a0 len0 cap0 z0 v1 l1 a2 a3 W w0 w1 b1 w2 w3).mono fun e W' ⟨he, bel⟩ => ?_
  subst he
  exact ⟨_, rfl, _, _, _, [], _, [], hW', trodAll_mk1 (shut_bool Try.underlying4 _), (trodAll_cons_mk (Below.trod laidOut (by kernel_rfl) (of_decide_eq_true (by kernel_rfl)) k0 bel lt0) (trodAll_cons_mk (Below.trod laidOut (by kernel_rfl) (of_decide_eq_true (by kernel_rfl)) k1 bel lt1) (trodAll_cons_mk (Below.trod laidOut (by kernel_rfl) (of_decide_eq_true (by kernel_rfl)) k2 bel lt2) (trodAll_cons_mk (Below.trod laidOut (by kernel_rfl) (of_decide_eq_true (by kernel_rfl)) k3 bel lt3) trodAll_mk0)))), rfl, bel.frame _, fun h => by cases h⟩

theorem over : Rows.ropeBackRow.holds Try.pinned (OpenSpec.ofChange Rows.ropeBackSpec) :=
  OpenClaim.holds_of_wide 13 Try.f13 rfl rfl rfl rfl rfl rfl rfl ⟨rfl, rfl, rfl, rfl, rfl⟩ rfl rfl rfl rfl rfl (by kernel_rfl) Try.func13 (by kernel_rfl)
    (of_decide_eq_true (by kernel_rfl)) (by unfold Func.isWrapper; first | (rw [if_pos (by decide +kernel)]; kernel_rfl) | (rw [if_neg (by decide +kernel)]; exact ⟨rfl, rfl⟩))
    (fun os started H enc _ => lifted os started H enc)

theorem proved : Rows.RopeBackSaid := over
end Go.Proofs.Ytidfpnedbcaicaa.ropeBack
