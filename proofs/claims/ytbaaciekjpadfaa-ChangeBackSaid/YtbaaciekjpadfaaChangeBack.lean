/- What Back tells turns the text back, and what turns that back has as many edits. Conditions: none beyond the form's own. -/
import Derived.Test.YtbaaciekjpadfaaRows
import Derived.Test.YtbaaciekjpadfaaArgs
import Derived.Test.YtbaaciekjpadfaaEdL
import Derived.Deep.QuietTactic
import Derived.BigQuiet
namespace Go.Proofs.Ytbaaciekjpadfaa.changeBack
open Go.Proofs.Ytbaaciekjpadfaa
open Go.ChangeShapes Go.WideShapes Go.ChangeAt Go.RowKit Go.Deep
open Go.ChangeMaps (open_string shut_string)
set_option linter.unusedVariables false

theorem own : ownKnob Try.prog.godebug = none := by kernel_rfl
theorem laidOut : laidOutB Try.prog = true := by kernel_rfl
-- opt:8000000
open SpanM EdM
attribute [local go_sem ↓] Go.wp_at_zero Go.wp_at_succ
theorem sep_at {B : List Ed} (h : Sep B) : ∀ i (h : i + 1 < B.length), B[i].1.2 < B[i + 1].1.1 := fun i hi => List.pairwise_iff_getElem.1 h i (i + 1) (by omega) hi (by omega)
set_option maxRecDepth 100000 in
set_option maxHeartbeats 8000000 in
theorem walk (a0 : ByteArray) (a1 : Value) (l1 : List EdM.Ed) (a2 : Int) (w : World) (w0 : a0.size ≤ maxLen) (w1 : EdAt w a1 l1) (b1 : ∀ e ∈ l1, WfE e) (w2 : (Lit.int .i64 a2).wf = true) :
    Calls Try.prog 6 #[.string a0, a1, .int .i64 a2] w fun e w' => e = .returned (.bool true) ∧ Below w.heap.size w w' := by
  by_cases hin : a0.size ≤ 200
  · have g1 : decide (200 < (a0.size : Int)) = false := by simp; omega
    have W1 := hide w1
    have hP := hide (edat_long w1)
    clear w1 w2
    go_enter Try.func6, Try.ntmps6
    go_wp2_with fail
    refine (apart6_any a0.size a1 l1 _ W1.out (by omega) hP.out).mono ?_
    rintro e w1 ⟨v1, l, rfl, hap, hb1, ho1⟩
    have hll := hap.len
    have HE1 := hide (own_edat ho1)
    have HAP := hide hap
    clear ho1
    go_wp2_with fail
    refine (turned_any _ l a2 _ HE1.out hll).mono ?_
    rintro e w3 ⟨v3, k3, rfl, hk3, hb3, ho3⟩
    have he3 := edat_of ho3 (turn_len l k3)
    obtain ⟨a3, c3, rfl⟩ := edat_len he3
    rw [turn_len] at he3 ⊢
    have HE3 := hide he3
    have ht := turns_of a0 l hap hin
    obtain ⟨T, hT⟩ : ∃ T, mkT (appR (bts a0) l) = T := ⟨_, rfl⟩
    obtain ⟨B, hB⟩ : ∃ B, inv (bts a0) 0 (grp l) = B := ⟨_, rfl⟩
    obtain ⟨G, hG⟩ : ∃ G, grp l = G := ⟨_, rfl⟩
    rw [hT, hB, hG] at ht
    have hso := ap_sort hap (turn_perm l k3)
    have HA1 : Hid (appR (bts a0) (sortE (turn l k3)) = bts T) := hide (by rw [hso]; exact ht.text.symm)
    have HA2 : Hid (inv (bts a0) 0 (grp (sortE (turn l k3))) = B) := hide (by rw [hso]; exact hB)
    have HA3 : Hid (appR (bts T) (sortE B) = bts a0) := hide (by rw [ht.sortB]; exact ht.back)
    have HA4 : Hid (inv (bts T) 0 (grp (sortE B)) = G) := hide (by rw [ht.sortB]; exact ht.again)
    have HA5 : Hid (appR (bts a0) (sortE G) = bts T) := hide (by rw [ht.sortG]; exact ht.forth)
    have HF3 := hide (ap_fine hap (by omega) (turn_perm l k3))
    have HS3 := hide (ap_small hap (turn_perm l k3))
    have hl3 : (turn l k3).length ≤ 20 := by rw [turn_len]; exact hll
    have hBl := ht.lenB
    have hGl := ht.lenG
    have hTs := ht.size
    have HT := hide ht
    have e1 : mkT (bts T) = T := mk_bts T
    have e2 : mkT (bts a0) = a0 := mk_bts a0
    have hlt1 : decide (l.length < B.length) = false := by simp; omega
    have HGL := hide hGl
    clear hap ho3 he3 ht hT hB hG hso hGl
    have hsep := hide (sep_at HT.out.sep)
    go_wp2_with fail
    refine (apply_fine a0 (bts T) _ (turn l k3) _ HE3.out hl3 HS3.out (by omega) HF3.out HA1.out).mono ?_
    rintro e w4 ⟨rfl, hb4⟩
    rw [e1]
    have HE4 := hide (edat_below HE3.out hb4)
    go_wp2_with fail
    refine (back_fine a0 B _ (turn l k3) _ HE4.out hl3 HS3.out (by omega) HF3.out HA2.out).mono ?_
    rintro e w5 ⟨vB, rfl, hb5, ho5⟩
    have HB5 := hide (own_edat ho5)
    obtain ⟨aB, cB, rfl⟩ := edat_len HB5.out
    clear ho5 HE3 HE4 HA1 HA2 HF3 HS3
    go_wp2_with fail
    refine (apply_fine T (bts a0) _ B _ HB5.out (by omega) HT.out.smallB (by omega) HT.out.fineB HA3.out).mono ?_
    rintro e w6 ⟨rfl, hb6⟩
    rw [e2]
    have HB6 := hide (edat_below HB5.out hb6)
    go_wp2_with fail
    refine (back_fine T G _ B _ HB6.out (by omega) HT.out.smallB (by omega) HT.out.fineB HA4.out).mono ?_
    rintro e w7 ⟨vG, rfl, hb7, ho7⟩
    have hg7 := own_edat ho7
    obtain ⟨aG, cG, rfl⟩ := edat_len hg7
    rw [HGL.out] at hg7 ⊢
    have HG7 := hide hg7
    have HB7 := hide (edat_below HB6.out hb7)
    clear ho7 hg7 HB5 HB6 HA3 HA4 e2
    go_wp2
    go_loopw [16] (fun i wr => ∃ p : Nat, i = .int .i64 ((p : Int) + 1) ∧ p ≤ B.length ∧ Below w7.heap.size w7 wr) (fun i _ => B.length + 1 - (intOf i).toNat)
    case atStart => exact ⟨0, rfl, Nat.zero_le _, bl_refl w7⟩
    case round =>
      obtain ⟨p, rfl, hp, hbl⟩ := hrel
      by_cases hlt : p + 1 < B.length
      · obtain ⟨b1', o1, c1', hv1, hc1, hm1, hlb1, hcell1⟩ := edat_some (edat_below HB7.out hbl) (by omega)
        injection hv1 with hv1 _ hv1c
        subst hv1 hv1c
        unfold maxLen at hm1
        obtain ⟨x1, x2, x3⟩ := hcell1 p (by omega)
        obtain ⟨y1, y2, y3⟩ := hcell1 (p + 1) hlt
        have hs := hsep.out p hlt
        clear hcell1
        generalize B[p].1.2 = t at *
        generalize B[p + 1].1.1 = f at *
        have hd : decide (f ≤ t) = false := by simp; omega
        have hwp : IntKind.i64.wrap ((p : Int) + 1 - 1) = (p : Int) := by rw [IntWalk.i64_in _ (by omega)]; omega
        clear hs x1 x3 y2 y3
        go_wp2
        go_quiet (fail)
        go_wp2
        have hb8 : ∀ nq, Below w7.heap.size w7 (wr.drewN nq) := fun nq => bl_drewN hbl nq
        refine ⟨?_, by first | (simp [intOf]; done) | (simp [intOf]; omega)⟩
        first
          | exact ⟨p + 1, by go_num, by omega, hb8 _⟩
          | ((repeat apply Exists.intro); exact ⟨⟨p + 1, by go_num, by omega, hb8 _⟩, rfl⟩)
      · have HG8 := hide (edat_below HG7.out hbl)
        have hdl : decide ((p : Int) + 1 < (B.length : Int)) = false := by simp; omega
        have hGl20 : G.length ≤ 20 := by have := HGL.out; omega
        clear hlt hsep HG7 HB7
        go_wp2_with fail
        refine (apply_fine a0 (bts T) _ G _ HG8.out hGl20 HT.out.smallG (by omega) HT.out.fineG HA5.out).mono ?_
        rintro e w8 ⟨rfl, hb8⟩
        rw [e1]
        clear HG8 HT HA5 e1
        go_wp2_with fail
        refine (awake6_any _).mono ?_
        rintro e wz ⟨rfl, hbz⟩
        go_wp2
        go_ret
        exact ⟨rfl, bl_trans hb1 (bl_trans hb3 (bl_trans hb4 (bl_trans hb5 (bl_trans hb6 (bl_trans hb7 (bl_trans hbl (bl_trans hb8 hbz)))))))⟩
  · have g1 : decide (200 < (a0.size : Int)) = true := by simp; omega
    clear hin
    go_enter Try.func6, Try.ntmps6
    go_wp2_with fail
    refine (awake6_any _).mono ?_
    rintro e w1 ⟨rfl, hb1⟩
    go_wp2
    go_ret
    exact ⟨rfl, hb1⟩

set_option maxRecDepth 100000 in
theorem lifted (os : Os) (started : os.Started) (H : Type) (enc : TypeId × Value → H) :
    ReturnsInHanded {} Try.checked os 6 .any (Rows.changeBackSpec.pre6 enc Try.prog Try.f6 Rows.changeBackRow.domain false) (Rows.changeBackSpec.post enc Try.prog Try.f6 false true false false) := by
  refine returnsInHanded_of_change (C := Try.checked) own started (by kernel_rfl) Try.func6
    (ChangeSpec.witness6 (enc := enc) (C := Try.checked) false ⟨#[], #[.string ByteArray.empty, .slice none 0 0, .int .i64 0], []⟩ 8 (by kernel_rfl) (by kernel_rfl) (by kernel_rfl) (by kernel_rfl)) ?_
  intro W base args ds gs before hval0 hW hcnd _
  have hval : ∀ (j : Nat) t v, Try.f6.params[j]? = some t → args[j]? = some v → Value.okWide Try.prog W .any base t v := hval0
  have hW' := hW
  obtain ⟨p, q, hA0, hV, rfl, hfz, hnd⟩ := hW
  have hA : DataW.TrodAll enc Try.prog W 0 (fun _ => true) true Try.f6.params.toList args.toList ds p := hA0
  rw [Try.params6] at hA hval
  obtain ⟨v0, vs0, d0, ds0, p0, q0, hargs, rfl, rfl, h0, r0⟩ := trodAll_cons hA
  obtain ⟨v1, vs1, d1, ds1, p1, q1, rfl, rfl, rfl, h1, r1⟩ := trodAll_cons r0
  obtain ⟨v2, vs2, d2, ds2, p2, q2, rfl, rfl, rfl, h2, r2⟩ := trodAll_cons r1
  obtain ⟨rfl, rfl, rfl⟩ := trodAll_nil r2
  obtain rfl : args = #[v0, v1, v2] := by cases args; simp_all
  obtain ⟨rfl, rfl⟩ := trodVars_none hV
  have k0 := h0
  have lt0 : ∀ x ∈ p0, x.block < W.heap.size := by obtain ⟨m, hm⟩ := k0; exact DataW.trod_lt m _ _ _ hm
  obtain ⟨a0, rfl, hd0, hp0, w0⟩ := open_string Try.underlying9 (hval 0 9 v0 rfl rfl) h0
  have k1 := h1
  have lt1 : ∀ x ∈ p1, x.block < W.heap.size := by obtain ⟨m, hm⟩ := k1; exact DataW.trod_lt m _ _ _ hm
  obtain ⟨l1, w1, b1⟩ := open_pieces (hval 1 38 v1 rfl rfl) h1
  have k2 := h2
  have lt2 : ∀ x ∈ p2, x.block < W.heap.size := by obtain ⟨m, hm⟩ := k2; exact DataW.trod_lt m _ _ _ hm
  obtain ⟨a2, rfl, hd2, hp2, w2⟩ := open_int Try.underlying3 (hval 2 3 v2 rfl rfl) h2
  clear hA0 hval0
  refine (walk a0 v1 l1 a2 W w0 w1 b1 w2).mono fun e W' ⟨he, bel⟩ => ?_
  subst he
  exact ⟨_, rfl, _, _, _, [], _, [], hW', trodAll_mk1 (shut_bool Try.underlying4 _), (trodAll_cons_mk (Below.trod laidOut (by kernel_rfl) (of_decide_eq_true (by kernel_rfl)) k0 bel lt0) (trodAll_cons_mk (Below.trod laidOut (by kernel_rfl) (of_decide_eq_true (by kernel_rfl)) k1 bel lt1) (trodAll_cons_mk (Below.trod laidOut (by kernel_rfl) (of_decide_eq_true (by kernel_rfl)) k2 bel lt2) trodAll_mk0))), rfl, bel.frame _, fun h => by cases h⟩

theorem over : Rows.changeBackRow.holds Try.pinned (OpenSpec.ofChange Rows.changeBackSpec) :=
  OpenClaim.holds_of_wide 6 Try.f6 rfl rfl rfl rfl rfl rfl rfl ⟨rfl, rfl, rfl, rfl, rfl⟩ rfl rfl rfl rfl rfl (by kernel_rfl) Try.func6 (by kernel_rfl)
    (of_decide_eq_true (by kernel_rfl)) (by unfold Func.isWrapper; first | (rw [if_pos (by decide +kernel)]; kernel_rfl) | (rw [if_neg (by decide +kernel)]; exact ⟨rfl, rfl⟩))
    (fun os started H enc _ => lifted os started H enc)

theorem proved : Rows.ChangeBackSaid := over
end Go.Proofs.Ytbaaciekjpadfaa.changeBack
