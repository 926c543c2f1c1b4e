/- Behind each deed a rope's pieces are its text, of their sizes, and a treap by their Prios. Conditions: none beyond the form's own. -/
import Derived.Test.YtidfpnedbcaicaaRows
import Derived.Test.YtidfpnedbcaicaaArgs
import Derived.Test.YtidfpnedbcaicaaRdEnd
namespace Go.Proofs.Ytidfpnedbcaicaa.ropePieces
open Go.Proofs.Ytidfpnedbcaicaa
open Go.ChangeShapes Go.WideShapes Go.ChangeAt Go.RowKit Go.Deep
open Go.ChangeMaps (open_string shut_string)
set_option linter.unusedVariables false

theorem own : ownKnob Try.prog.godebug = none := by kernel_rfl
theorem laidOut : laidOutB Try.prog = true := by kernel_rfl
-- opt:16000000
attribute [local go_sem ↓] Go.wp_at_zero Go.wp_at_succ
set_option maxRecDepth 100000 in
set_option maxHeartbeats 16000000 in
theorem walk (a0 : Option Addr) (len0 cap0 : Nat) (z0 : List Int) (a1 : ByteArray) (a2 : Value) (l2 : List De) (w : World) (w0 : IsInts .u32 w a0 len0 cap0 z0) (w1 : a1.size ≤ maxLen) (w2 : DeAt w a2 l2) (b2 : ∀ d ∈ l2, WfDe d) :
    Calls Try.prog 4 #[.slice a0 len0 cap0, .string a1, a2] w fun e w' => e = .returned (.bool true) ∧ Below w.heap.size w w' := by
  have hl0 := deat_long w2
  have W2 := hide w2
  obtain ⟨aG, cG, rfl⟩ := deat_len w2
  have HI := hide w0
  clear w0 w2 b2
  by_cases h0 : len0 ≤ 40
  · have g0 : decide (40 < (len0 : Int)) = false := decide_eq_false (by omega)
    by_cases h1 : a1.size ≤ 300
    · have g1 : decide (300 < (a1.size : Int)) = false := decide_eq_false (by omega)
      go_enter Try.func4, Try.ntmps4
      go_wp2_with fail
      refine (much3_any 16 500 (by omega) _ l2 w W2.out hl0).mono ?_
      rintro e wa ⟨rr, rfl, hok, hwa⟩
      subst hwa
      cases rr
      case true =>
        clear hok
        go_wp2_with fail
        refine (awake3_any _).mono ?_
        rintro e w13 ⟨rfl, hb13⟩
        go_wp2
        go_ret
        exact ⟨rfl, hb13⟩
      case false =>
        obtain ⟨hn, hd⟩ := hok rfl
        have HD := hide hd
        clear hok hd
        go_wp2_with fail
        refine (rst_dnews (rst_start w) HI.out (by omega)).mono ?_
        rintro e w3 ⟨d, g, rfl, hR, hb3⟩
        have HN := hide (rst_new1 hR (d := d) (g := g) (by simp) a1 (by omega))
        clear hR
        go_wp2_with fail
        refine HN.out.mono ?_
        rintro e w4 ⟨r, t, rfl, _, htx, hR⟩
        have HT := hide htx
        have HR := hide hR
        clear htx hR HN
        go_wp2
        go_loopw [8, 10, 11] (fun r s i wr => DeInv l2.length 300 w d g s r i wr) (fun _ _ i _ => l2.length - (intOf i).toNat)
        case atStart => exact ⟨0, a1, r, t, rfl, rfl, rfl, Nat.zero_le _, by omega, HT, HR⟩
        case round =>
          obtain ⟨k, sv, rr, t, rfl, rfl, rfl, hk, hsz, HT, HR⟩ := hrel
          by_cases hlt : k < l2.length
          · have hDE := deat_below W2.out HR.out.bel
            obtain ⟨b1, o1, c1, hv1, hc1, hm1, hlb1, hcell1⟩ := deat_some hDE (by omega)
            injection hv1 with hv1 _ hv1c
            subst hv1 hv1c
            unfold maxLen at hm1
            obtain ⟨x0, x1, x2, x3⟩ := hcell1 k hlt
            have hdk := HD.out _ (List.getElem_mem hlt)
            clear hcell1 hDE
            generalize l2[k] = y at *
            obtain ⟨dk, da, db, dx⟩ := y
            simp only at x0 x1 x2 x3 hdk
            have HDO := hide (does_any HR.out (g := g) (by simp) HT.out dk da db dx (by omega))
            go_wp2_with fail
            refine HDO.out.mono ?_
            rintro e w5 ⟨s2, r2, t2, rfl, hs2, htx, hR⟩
            have HT2 := hide htx
            have HR2 := hide hR
            clear htx hR HDO HT HR x0 x1 x2 x3
            have HW := hide (rst_whole HR2.out (r := r2) (d := d) (t := t2) (by simp) HT2.out (by omega))
            go_wp2_with fail
            refine HW.out.mono ?_
            rintro e w6 ⟨rfl, _, hR⟩
            have HR2 := hide hR
            clear hR HW
            go_wp2
            refine ⟨?_, by first | (simp [intOf]; done) | (simp [intOf]; omega)⟩
            exact ⟨k + 1, s2, r2, t2, rfl, rfl, by go_num, by omega, by push_cast; omega, HT2, HR2⟩
          · obtain rfl : k = l2.length := by omega
            have HW := hide (rst_whole HR.out (r := rr) (d := d) (t := t) (by simp) HT.out (by omega))
            go_wp2_with fail
            refine HW.out.mono ?_
            rintro e w6 ⟨rfl, _, hR⟩
            have HR := hide hR
            clear hR HW
            go_wp2_with fail
            refine (awake3_any _).mono ?_
            rintro e w8 ⟨rfl, hb8⟩
            have hb := bl_trans HR.out.bel hb8
            go_wp2
            go_ret
            exact ⟨rfl, hb⟩
    · have g1 : decide (300 < (a1.size : Int)) = true := decide_eq_true (by omega)
      go_enter Try.func4, Try.ntmps4
      go_wp2_with fail
      refine (awake3_any _).mono ?_
      rintro e w13 ⟨rfl, hb13⟩
      go_wp2
      go_ret
      exact ⟨rfl, hb13⟩
  · have g0 : decide (40 < (len0 : Int)) = true := decide_eq_true (by omega)
    go_enter Try.func4, Try.ntmps4
    go_wp2_with fail
    refine (awake3_any _).mono ?_
    rintro e w13 ⟨rfl, hb13⟩
    go_wp2
    go_ret
    exact ⟨rfl, hb13⟩

set_option maxRecDepth 100000 in
theorem lifted (os : Os) (started : os.Started) (H : Type) (enc : TypeId × Value → H) :
    ReturnsInHanded {} Try.checked os 4 .any (Rows.ropePiecesSpec.pre6 enc Try.prog Try.f4 Rows.ropePiecesRow.domain false) (Rows.ropePiecesSpec.post enc Try.prog Try.f4 false true false false) := by
  refine returnsInHanded_of_change (C := Try.checked) own started (by kernel_rfl) Try.func4
    (ChangeSpec.witness6 (enc := enc) (C := Try.checked) false ⟨#[], #[.slice none 0 0, .string ByteArray.empty, .slice none 0 0], []⟩ 8 (by kernel_rfl) (by kernel_rfl) (by kernel_rfl) (by kernel_rfl)) ?_
  intro W base args ds gs before hval0 hW hcnd _
  have hval : ∀ (j : Nat) t v, Try.f4.params[j]? = some t → args[j]? = some v → Value.okWide Try.prog W .any base t v := hval0
  have hW' := hW
  obtain ⟨p, q, hA0, hV, rfl, hfz, hnd⟩ := hW
  have hA : DataW.TrodAll enc Try.prog W 0 (fun _ => true) true Try.f4.params.toList args.toList ds p := hA0
  rw [Try.params4] at hA hval
  obtain ⟨v0, vs0, d0, ds0, p0, q0, hargs, rfl, rfl, h0, r0⟩ := trodAll_cons hA
  obtain ⟨v1, vs1, d1, ds1, p1, q1, rfl, rfl, rfl, h1, r1⟩ := trodAll_cons r0
  obtain ⟨v2, vs2, d2, ds2, p2, q2, rfl, rfl, rfl, h2, r2⟩ := trodAll_cons r1
  obtain ⟨rfl, rfl, rfl⟩ := trodAll_nil r2
  obtain rfl : args = #[v0, v1, v2] := by cases args; simp_all
  obtain ⟨rfl, rfl⟩ := trodVars_none hV
  have k0 := h0
  have lt0 : ∀ x ∈ p0, x.block < W.heap.size := by obtain ⟨m, hm⟩ := k0; exact DataW.trod_lt m _ _ _ hm
  obtain ⟨a0, len0, cap0, rfl⟩ := okWide_slice Try.underlying22 (hval 0 22 v0 rfl rfl)
  obtain ⟨z0, w0⟩ : ∃ zs, IsInts .u32 W a0 len0 cap0 zs := by
    obtain ⟨fuel, hf⟩ := h0
    rcases open_ints Try.underlying22 Try.underlying54 (by kernel_rfl) hf with ⟨hcs, _⟩ | ⟨x, l, c, zs, hcs, _, hl, hm, hz, _, hcell, hwz⟩
    · simp [Value.cells] at hcs
      obtain ⟨rfl, rfl, rfl⟩ := hcs
      exact ⟨[], .inl ⟨rfl, rfl, rfl, rfl⟩⟩
    · simp [Value.cells] at hcs
      obtain ⟨rfl, rfl, rfl⟩ := hcs
      exact ⟨zs, .inr ⟨_, rfl, hl, hm, by simpa using hz, hcell, hwz⟩⟩
  have k1 := h1
  have lt1 : ∀ x ∈ p1, x.block < W.heap.size := by obtain ⟨m, hm⟩ := k1; exact DataW.trod_lt m _ _ _ hm
  obtain ⟨a1, rfl, hd1, hp1, w1⟩ := open_string Try.underlying9 (hval 1 9 v1 rfl rfl) h1
  have k2 := h2
  have lt2 : ∀ x ∈ p2, x.block < W.heap.size := by obtain ⟨m, hm⟩ := k2; exact DataW.trod_lt m _ _ _ hm
  obtain ⟨l2, w2, b2⟩ := open_dees (hval 2 23 v2 rfl rfl) h2
  clear hA0 hval0
  refine (walk a0 len0 cap0 z0 a1 v2 l2 W w0 w1 w2 b2).mono fun e W' ⟨he, bel⟩ => ?_
  subst he
  exact ⟨_, rfl, _, _, _, [], _, [], hW', trodAll_mk1 (shut_bool Try.underlying4 _), (trodAll_cons_mk (Below.trod laidOut (by kernel_rfl) (of_decide_eq_true (by kernel_rfl)) k0 bel lt0) (trodAll_cons_mk (Below.trod laidOut (by kernel_rfl) (of_decide_eq_true (by kernel_rfl)) k1 bel lt1) (trodAll_cons_mk (Below.trod laidOut (by kernel_rfl) (of_decide_eq_true (by kernel_rfl)) k2 bel lt2) trodAll_mk0))), rfl, bel.frame _, fun h => by cases h⟩

theorem over : Rows.ropePiecesRow.holds Try.pinned (OpenSpec.ofChange Rows.ropePiecesSpec) :=
  OpenClaim.holds_of_wide 4 Try.f4 rfl rfl rfl rfl rfl rfl rfl ⟨rfl, rfl, rfl, rfl, rfl⟩ rfl rfl rfl rfl rfl (by kernel_rfl) Try.func4 (by kernel_rfl)
    (of_decide_eq_true (by kernel_rfl)) (by unfold Func.isWrapper; first | (rw [if_pos (by decide +kernel)]; kernel_rfl) | (rw [if_neg (by decide +kernel)]; exact ⟨rfl, rfl⟩))
    (fun os started H enc _ => lifted os started H enc)

theorem proved : Rows.RopePiecesSaid := over
end Go.Proofs.Ytidfpnedbcaicaa.ropePieces
