/- Two texts at two places stand there whichever comes first; the pieces are a treap either way. Condition: none but the law's own. Conditions: none beyond the form's own. -/
import Derived.Test.YtidfpnedbcaicaaRows
import Derived.Test.YtidfpnedbcaicaaArgs
import Derived.Test.YtidfpnedbcaicaaRopW
namespace Go.Proofs.Ytidfpnedbcaicaa.ropeOrder
open Go.Proofs.Ytidfpnedbcaicaa
open Go.ChangeShapes Go.WideShapes Go.ChangeAt Go.RowKit Go.Deep
open Go.ChangeMaps (open_string shut_string)
set_option linter.unusedVariables false

theorem own : ownKnob Try.prog.godebug = none := by kernel_rfl
theorem laidOut : laidOutB Try.prog = true := by kernel_rfl
-- opt:8000000
attribute [local go_sem ↓] Go.wp_at_zero Go.wp_at_succ
theorem ord_parts (L : List UInt8) (p q : Nat) (hpq : p ≤ q) (hq : q ≤ L.length) : ∃ A B C : List UInt8, L = A ++ B ++ C ∧ A.length = p ∧ B.length + p = q :=
  ⟨L.take p, (L.take q).drop p, L.drop q, by
    have h1 : L.take p ++ (L.take q).drop p = L.take q := by
      conv => rhs; rw [← List.take_append_drop p (L.take q)]
      rw [List.take_take, Nat.min_eq_left hpq]
    rw [h1, List.take_append_drop], by simp; omega, by simp; omega⟩
def insL (L : List UInt8) (k : Nat) (s : List UInt8) : List UInt8 := L.take k ++ s ++ L.drop k
theorem ins_list (x s : ByteArray) (k : Nat) : (x.extract 0 k ++ s ++ x.extract k x.size).data.toList = insL x.data.toList k s.data.toList := by
  rw [app_list, app_list, ext_take, ext_drop]; rfl
theorem ins_at (A C Y : List UInt8) : insL (A ++ C) A.length Y = A ++ Y ++ C := by simp [insL]
theorem want_list (s x y : ByteArray) (A B C : List UInt8) (hL : s.data.toList = A ++ B ++ C) : (s.extract 0 A.length ++ x ++ s.extract A.length (A ++ B).length ++ y ++ s.extract (A ++ B).length s.size).data.toList = A ++ x.data.toList ++ B ++ y.data.toList ++ C := by
  rw [app_list, app_list, app_list, app_list, ext_take s A.length, ext_mid s A.length (A ++ B).length, ext_drop s (A ++ B).length, hL]
  have e1 : List.take (A ++ B).length (A ++ B ++ C) = A ++ B := List.take_left' rfl
  have e2 : List.drop (A ++ B).length (A ++ B ++ C) = C := List.drop_left' rfl
  have e3 : List.take A.length (A ++ B ++ C) = A := by rw [List.append_assoc]; exact List.take_left' rfl
  rw [e1, e2, e3, List.drop_left' rfl]
theorem ord_a (s x y : ByteArray) (p q : Nat) (hpq : p ≤ q) (hq : q ≤ s.size) :
    (s.extract 0 q ++ y ++ s.extract q s.size).extract 0 p ++ x ++ (s.extract 0 q ++ y ++ s.extract q s.size).extract p (s.extract 0 q ++ y ++ s.extract q s.size).size = s.extract 0 p ++ x ++ s.extract p q ++ y ++ s.extract q s.size := by
  apply str_ext
  obtain ⟨A, B, C, hL, hA, hB⟩ := ord_parts s.data.toList p q hpq hq
  rw [ins_list, ins_list]
  subst hA
  have hAB : q = (A ++ B).length := by simp; omega
  subst hAB
  rw [want_list s x y A B C hL, hL, ins_at, List.append_assoc, List.append_assoc, ins_at]
  simp only [List.append_assoc]
theorem ord_b (s x y : ByteArray) (p q : Nat) (hpq : p ≤ q) (hq : q ≤ s.size) :
    (s.extract 0 p ++ x ++ s.extract p s.size).extract 0 (q + x.size) ++ y ++ (s.extract 0 p ++ x ++ s.extract p s.size).extract (q + x.size) (s.extract 0 p ++ x ++ s.extract p s.size).size = s.extract 0 p ++ x ++ s.extract p q ++ y ++ s.extract q s.size := by
  apply str_ext
  obtain ⟨A, B, C, hL, hA, hB⟩ := ord_parts s.data.toList p q hpq hq
  rw [ins_list, ins_list]
  subst hA
  have hAB : q = (A ++ B).length := by simp; omega
  subst hAB
  have e1 : (A ++ B).length + x.size = (A ++ x.data.toList ++ B).length := by rw [size_list]; simp; omega
  rw [want_list s x y A B C hL, hL, List.append_assoc A B C, ins_at, e1, show A ++ x.data.toList ++ (B ++ C) = (A ++ x.data.toList ++ B) ++ C from by simp only [List.append_assoc], ins_at]
theorem ord_sz (s x : ByteArray) (p : Nat) (hp : p ≤ s.size) : (s.extract 0 p ++ x ++ s.extract p s.size).size = s.size + x.size := by
  simp [ByteArray.size_append, ByteArray.size_extract]
  omega
set_option maxRecDepth 100000 in
set_option maxHeartbeats 8000000 in
theorem walk (a0 : ByteArray) (a1 : ByteArray) (a2 : ByteArray) (a3 : Int) (a4 : Int) (w : World) (w0 : a0.size ≤ maxLen) (w1 : a1.size ≤ maxLen) (w2 : a2.size ≤ maxLen) (w3 : (Lit.int .i64 a3).wf = true) (w4 : (Lit.int .i64 a4).wf = true) :
    Calls Try.prog 12 #[.string a0, .string a1, .string a2, .int .i64 a3, .int .i64 a4] w fun e w' => e = .returned (.bool true) ∧ Below w.heap.size w w' := by
  by_cases hs0 : a0.size ≤ 200 ∧ a1.size ≤ 200 ∧ a2.size ≤ 200
  · obtain ⟨h0, h1, h2⟩ := hs0
    have g0 : decide (200 < (a0.size : Int)) = false := decide_eq_false (by omega)
    have g1 : decide (200 < (a1.size : Int)) = false := decide_eq_false (by omega)
    have g2 : decide (200 < (a2.size : Int)) = false := decide_eq_false (by omega)
    have hP := lowN_lt a3 (a0.size + 1) (by omega)
    have hQ := lowN_lt a4 (a0.size + 1) (by omega)
    have HL3 := hide (low_any a3 (a0.size + 1) w (by omega) (by omega))
    have HL4 := hide (low_any a4 (a0.size + 1) w (by omega) (by omega))
    generalize lowN a3 (a0.size + 1) = P at *
    generalize lowN a4 (a0.size + 1) = Q at *
    obtain ⟨p, hp⟩ : ∃ p : Nat, min P Q = p := ⟨_, rfl⟩
    obtain ⟨q, hq⟩ : ∃ q : Nat, max P Q = q := ⟨_, rfl⟩
    have hp' : min (P : Int) (Q : Int) = (p : Int) := by omega
    have hq' : max (P : Int) (Q : Int) = (q : Int) := by omega
    have hpq : p ≤ q := by omega
    have hqs : q ≤ a0.size := by omega
    clear hp hq hP hQ
    go_enter Try.func12, Try.ntmps12
    go_wp2_with fail
    refine HL3.out.mono ?_
    rintro e w1 ⟨rfl, rfl⟩
    go_wp2_with fail
    refine HL4.out.mono ?_
    rintro e w1 ⟨rfl, rfl⟩
    clear HL3 HL4
    go_wp2_with fail
    refine (rst_dnew (rst_start w) [3] _ rfl (by decide) (by decide) 1 rfl).mono ?_
    rintro e w1 ⟨d1, b1, rfl, hR1, _⟩
    have HN1 := hide (rst_new1 hR1 (d := d1) (g := b1) (by simp) a0 (by omega))
    clear hR1
    go_wp2_with fail
    refine HN1.out.mono ?_
    rintro e w2 ⟨r, t1, rfl, _, htx, hR2⟩
    have HX := hide htx
    have HN1 := hide (rst_dnew hR2 [4, 1] #[.int .u32 4, .int .u32 1] rfl (by decide) (by decide) 2 rfl)
    clear htx hR2
    go_wp2_with fail
    refine HN1.out.mono ?_
    rintro e w3 ⟨d2, b2, rfl, hR1, _⟩
    have HN1 := hide (rst_new1 hR1 (d := d2) (g := b2) (by simp) a0 (by omega))
    clear hR1
    go_wp2_with fail
    refine HN1.out.mono ?_
    rintro e w4 ⟨o, t2, rfl, _, htx, hR2⟩
    have HY := hide htx
    have HI := hide (rst_insert hR2.swap (g := b1) (by simp) HX.out q a2 hqs (by omega))
    clear htx hR2 HN1 HX
    go_wp2_with fail
    refine HI.out.mono ?_
    rintro e w5 ⟨t3, rfl, htx, hR2⟩
    have HI := hide (rst_insert hR2 (g := b1) (by simp) htx p a1 (by rw [ord_sz _ _ _ hqs]; omega) (by rw [ord_sz _ _ _ hqs]; omega))
    rw [ord_a a0 a1 a2 p q hpq hqs] at HI
    clear htx hR2
    go_wp2_with fail
    refine HI.out.mono ?_
    rintro e w6 ⟨t4, rfl, htx, hR2⟩
    have HX := hide htx
    have HI := hide (rst_insert hR2.swap (g := b2) (by simp) HY.out p a1 (by omega) (by omega))
    clear htx hR2 HY
    go_wp2_with fail
    refine HI.out.mono ?_
    rintro e w7 ⟨t5, rfl, htx, hR2⟩
    have HI := hide (rst_insert hR2 (g := b2) (by simp) htx (q + a1.size) a2 (by rw [ord_sz _ _ _ (by omega)]; omega) (by rw [ord_sz _ _ _ (by omega)]; omega))
    rw [ord_b a0 a1 a2 p q hpq hqs, show ((q + a1.size : Nat) : Int) = (q : Int) + (a1.size : Int) by omega] at HI
    clear htx hR2
    go_wp2_with fail
    refine HI.out.mono ?_
    rintro e w8 ⟨t6, rfl, htx, hR2⟩
    have HY := hide htx
    have HR2 := hide hR2
    clear htx hR2 HI
    have z1 : (a0.extract 0 p ++ a1).size ≤ 1000 := by simp only [ByteArray.size_append, ByteArray.size_extract]; omega
    have z2 : (a0.extract 0 p ++ a1 ++ a0.extract p q).size ≤ 1000 := by simp only [ByteArray.size_append, ByteArray.size_extract]; omega
    have z3 : (a0.extract 0 p ++ a1 ++ a0.extract p q ++ a2).size ≤ 1000 := by simp only [ByteArray.size_append, ByteArray.size_extract]; omega
    have z4 : (a0.extract 0 p ++ a1 ++ a0.extract p q ++ a2 ++ a0.extract q a0.size).size ≤ 1000 := by simp only [ByteArray.size_append, ByteArray.size_extract]; omega
    go_wp2_with (go_quiet (fail))
    obtain ⟨W, hW⟩ : ∃ W, a0.extract 0 p ++ a1 ++ a0.extract p q ++ a2 ++ a0.extract q a0.size = W := ⟨_, rfl⟩
    rw [hW] at HX HY z4 ⊢
    clear z1 z2 z3 hW
    refine (rst_text (r := r) (d := d1) (t := t4) (HR2.out.bl (bl_drewN (bl_refl _) _)) (by simp) HX.out (by omega)).mono ?_
    rintro e w9 ⟨rfl, hb9, hR2⟩
    have HR2 := hide hR2
    clear hR2
    go_wp2_with fail
    refine (rst_text (r := o) (d := d2) (t := t6) HR2.out (by simp) HY.out (by omega)).mono ?_
    rintro e w10 ⟨rfl, hb9, hR2⟩
    have HR2 := hide hR2
    clear hR2
    go_wp2_with fail
    refine (rst_whole (r := r) (d := d1) (t := t4) HR2.out (by simp) HX.out (by omega)).mono ?_
    rintro e w11 ⟨rfl, hb9, hR2⟩
    have HR2 := hide hR2
    clear hR2
    go_wp2_with fail
    refine (rst_whole (r := o) (d := d2) (t := t6) HR2.out (by simp) HY.out (by omega)).mono ?_
    rintro e w12 ⟨rfl, hb9, hR2⟩
    have HR2 := hide hR2
    clear hR2
    go_wp2_with fail
    refine (awake3_any _).mono ?_
    rintro e w13 ⟨rfl, hb9⟩
    have hb := bl_trans HR2.out.bel hb9
    go_wp2
    go_ret
    exact ⟨rfl, hb⟩
  · by_cases h0 : a0.size ≤ 200
    · have g0 : decide (200 < (a0.size : Int)) = false := decide_eq_false (by omega)
      by_cases h1 : a1.size ≤ 200
      · have g1 : decide (200 < (a1.size : Int)) = false := decide_eq_false (by omega)
        have g2 : decide (200 < (a2.size : Int)) = true := decide_eq_true (by omega)
        go_enter Try.func12, Try.ntmps12
        go_wp2_with fail
        refine (awake3_any _).mono ?_
        rintro e w13 ⟨rfl, hb9⟩
        go_wp2
        go_ret
        exact ⟨rfl, hb9⟩
      · have g1 : decide (200 < (a1.size : Int)) = true := decide_eq_true (by omega)
        go_enter Try.func12, Try.ntmps12
        go_wp2_with fail
        refine (awake3_any _).mono ?_
        rintro e w13 ⟨rfl, hb9⟩
        go_wp2
        go_ret
        exact ⟨rfl, hb9⟩
    · have g0 : decide (200 < (a0.size : Int)) = true := decide_eq_true (by omega)
      go_enter Try.func12, Try.ntmps12
      go_wp2_with fail
      refine (awake3_any _).mono ?_
      rintro e w13 ⟨rfl, hb9⟩
      go_wp2
      go_ret
      exact ⟨rfl, hb9⟩

set_option maxRecDepth 100000 in
theorem lifted (os : Os) (started : os.Started) (H : Type) (enc : TypeId × Value → H) :
    ReturnsInHanded {} Try.checked os 12 .any (Rows.ropeOrderSpec.pre6 enc Try.prog Try.f12 Rows.ropeOrderRow.domain false) (Rows.ropeOrderSpec.post enc Try.prog Try.f12 false true false false) := by
  refine returnsInHanded_of_change (C := Try.checked) own started (by kernel_rfl) Try.func12
    (ChangeSpec.witness6 (enc := enc) (C := Try.checked) false ⟨#[], #[.string ByteArray.empty, .string ByteArray.empty, .string ByteArray.empty, .int .i64 0, .int .i64 0], []⟩ 8 (by kernel_rfl) (by kernel_rfl) (by kernel_rfl) (by kernel_rfl)) ?_
  intro W base args ds gs before hval0 hW hcnd _
  have hval : ∀ (j : Nat) t v, Try.f12.params[j]? = some t → args[j]? = some v → Value.okWide Try.prog W .any base t v := hval0
  have hW' := hW
  obtain ⟨p, q, hA0, hV, rfl, hfz, hnd⟩ := hW
  have hA : DataW.TrodAll enc Try.prog W 0 (fun _ => true) true Try.f12.params.toList args.toList ds p := hA0
  rw [Try.params12] at hA hval
  obtain ⟨v0, vs0, d0, ds0, p0, q0, hargs, rfl, rfl, h0, r0⟩ := trodAll_cons hA
  obtain ⟨v1, vs1, d1, ds1, p1, q1, rfl, rfl, rfl, h1, r1⟩ := trodAll_cons r0
  obtain ⟨v2, vs2, d2, ds2, p2, q2, rfl, rfl, rfl, h2, r2⟩ := trodAll_cons r1
  obtain ⟨v3, vs3, d3, ds3, p3, q3, rfl, rfl, rfl, h3, r3⟩ := trodAll_cons r2
  obtain ⟨v4, vs4, d4, ds4, p4, q4, rfl, rfl, rfl, h4, r4⟩ := trodAll_cons r3
  obtain ⟨rfl, rfl, rfl⟩ := trodAll_nil r4
  obtain rfl : args = #[v0, v1, v2, v3, v4] := by cases args; simp_all
  obtain ⟨rfl, rfl⟩ := trodVars_none hV
  have k0 := h0
  have lt0 : ∀ x ∈ p0, x.block < W.heap.size := by obtain ⟨m, hm⟩ := k0; exact DataW.trod_lt m _ _ _ hm
  obtain ⟨a0, rfl, hd0, hp0, w0⟩ := open_string Try.underlying9 (hval 0 9 v0 rfl rfl) h0
  have k1 := h1
  have lt1 : ∀ x ∈ p1, x.block < W.heap.size := by obtain ⟨m, hm⟩ := k1; exact DataW.trod_lt m _ _ _ hm
  obtain ⟨a1, rfl, hd1, hp1, w1⟩ := open_string Try.underlying9 (hval 1 9 v1 rfl rfl) h1
  have k2 := h2
  have lt2 : ∀ x ∈ p2, x.block < W.heap.size := by obtain ⟨m, hm⟩ := k2; exact DataW.trod_lt m _ _ _ hm
  obtain ⟨a2, rfl, hd2, hp2, w2⟩ := open_string Try.underlying9 (hval 2 9 v2 rfl rfl) h2
  have k3 := h3
  have lt3 : ∀ x ∈ p3, x.block < W.heap.size := by obtain ⟨m, hm⟩ := k3; exact DataW.trod_lt m _ _ _ hm
  obtain ⟨a3, rfl, hd3, hp3, w3⟩ := open_int Try.underlying3 (hval 3 3 v3 rfl rfl) h3
  have k4 := h4
  have lt4 : ∀ x ∈ p4, x.block < W.heap.size := by obtain ⟨m, hm⟩ := k4; exact DataW.trod_lt m _ _ _ hm
  obtain ⟨a4, rfl, hd4, hp4, w4⟩ := open_int Try.underlying3 (hval 4 3 v4 rfl rfl) h4
  clear hA0 hval0
  refine (walk a0 a1 a2 a3 a4 W w0 w1 w2 w3 w4).mono fun e W' ⟨he, bel⟩ => ?_
  subst he
  exact ⟨_, rfl, _, _, _, [], _, [], hW', trodAll_mk1 (shut_bool Try.underlying4 _), (trodAll_cons_mk (Below.trod laidOut (by kernel_rfl) (of_decide_eq_true (by kernel_rfl)) k0 bel lt0) (trodAll_cons_mk (Below.trod laidOut (by kernel_rfl) (of_decide_eq_true (by kernel_rfl)) k1 bel lt1) (trodAll_cons_mk (Below.trod laidOut (by kernel_rfl) (of_decide_eq_true (by kernel_rfl)) k2 bel lt2) (trodAll_cons_mk (Below.trod laidOut (by kernel_rfl) (of_decide_eq_true (by kernel_rfl)) k3 bel lt3) (trodAll_cons_mk (Below.trod laidOut (by kernel_rfl) (of_decide_eq_true (by kernel_rfl)) k4 bel lt4) trodAll_mk0))))), rfl, bel.frame _, fun h => by cases h⟩

theorem over : Rows.ropeOrderRow.holds Try.pinned (OpenSpec.ofChange Rows.ropeOrderSpec) :=
  OpenClaim.holds_of_wide 12 Try.f12 rfl rfl rfl rfl rfl rfl rfl ⟨rfl, rfl, rfl, rfl, rfl⟩ rfl rfl rfl rfl rfl (by kernel_rfl) Try.func12 (by kernel_rfl)
    (of_decide_eq_true (by kernel_rfl)) (by unfold Func.isWrapper; first | (rw [if_pos (by decide +kernel)]; kernel_rfl) | (rw [if_neg (by decide +kernel)]; exact ⟨rfl, rfl⟩))
    (fun os started H enc _ => lifted os started H enc)

theorem proved : Rows.RopeOrderSaid := over
end Go.Proofs.Ytidfpnedbcaicaa.ropeOrder
