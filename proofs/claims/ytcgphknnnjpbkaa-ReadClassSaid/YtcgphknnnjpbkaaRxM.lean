/- Contracts: how many parts and groups a tree has, how deep it is, by the program and the reference. Condition: a tree that is not too big. -/
import Derived.Test.YtcgphknnnjpbkaaRxT
import Derived.Deep.DrawnRows
import Derived.BigQuiet
namespace Go.Proofs.Ytcgphknnnjpbkaa
open Go.ChangeShapes Go.WideShapes Go.ChangeAt Go.RowKit
open SetM
attribute [local go_sem ↓] Go.wp_at_zero Go.wp_at_succ
set_option maxRecDepth 100000
set_option linter.unusedVariables false
mutual
  def pM : Rt → Nat
    | .mk _ _ _ _ _ _ _ _ _ l => 1 + pL l
  def pL : List Rt → Nat
    | [] => 0
    | t :: l => pM t + pL l
end
mutual
  def gM : Rt → Nat
    | .mk k _ _ _ _ _ _ _ _ l => (if k = 5 then 1 else 0) + gL l
  def gL : List Rt → Nat
    | [] => 0
    | t :: l => gM t + gL l
end
mutual
  def dM : Rt → Nat
    | .mk k _ _ _ _ _ _ _ _ l => dL l + (if k = 5 ∨ k = 6 then 1 else 0)
  def dL : List Rt → Nat
    | [] => 0
    | t :: l => max (dM t) (dL l)
end
theorem pM_eq (t : Rt) : pM t = 1 + pL t.kids := by cases t; rw [pM]; rfl
theorem gM_eq (t : Rt) : gM t = (if t.k = 5 then 1 else 0) + gL t.kids := by cases t; rw [gM]; rfl
theorem dM_eq (t : Rt) : dM t = dL t.kids + (if t.k = 5 ∨ t.k = 6 then 1 else 0) := by cases t; rw [dM]; rfl
theorem pL_app (l m : List Rt) : pL (l ++ m) = pL l + pL m := by
  induction l with
  | nil => simp [pL]
  | cons a l ih => simp only [List.cons_append, pL, ih]; omega
theorem gL_app (l m : List Rt) : gL (l ++ m) = gL l + gL m := by
  induction l with
  | nil => simp [gL]
  | cons a l ih => simp only [List.cons_append, gL, ih]; omega
theorem dL_app (l m : List Rt) : dL (l ++ m) = max (dL l) (dL m) := by
  induction l with
  | nil => simp [dL]
  | cons a l ih => simp only [List.cons_append, dL, ih]; omega
theorem pL_snoc (l : List Rt) (k : Nat) (h : k < l.length) : pL (l.take (k + 1)) = pL (l.take k) + pM l[k] := by
  rw [List.take_succ_eq_append_getElem h, pL_app]; simp [pL]
theorem gL_snoc (l : List Rt) (k : Nat) (h : k < l.length) : gL (l.take (k + 1)) = gL (l.take k) + gM l[k] := by
  rw [List.take_succ_eq_append_getElem h, gL_app]; simp [gL]
theorem dL_snoc (l : List Rt) (k : Nat) (h : k < l.length) : dL (l.take (k + 1)) = max (dL (l.take k)) (dM l[k]) := by
  rw [List.take_succ_eq_append_getElem h, dL_app]; simp [dL]
theorem pL_kid (l : List Rt) (k : Nat) (h : k < l.length) : pM l[k] ≤ pL l := by
  have h1 := pL_snoc l k h
  have h2 : pL l = pL (l.take (k + 1)) + pL (l.drop (k + 1)) := by rw [← pL_app, List.take_append_drop]
  omega
theorem pM_pos (t : Rt) : 1 ≤ pM t := by rw [pM_eq]; omega
theorem len_pL (l : List Rt) : l.length ≤ pL l := by
  induction l with
  | nil => simp
  | cons a l ih => rw [pL, List.length_cons]; have := pM_pos a; omega
mutual
  theorem gM_le : ∀ t, gM t ≤ pM t
    | .mk k _ _ _ _ _ _ _ _ l => by rw [gM, pM]; have := gL_le l; split <;> omega
  theorem gL_le : ∀ l, gL l ≤ pL l
    | [] => by simp [gL]
    | t :: l => by rw [gL, pL]; have := gM_le t; have := gL_le l; omega
end
mutual
  theorem dM_le : ∀ t, dM t ≤ pM t
    | .mk k _ _ _ _ _ _ _ _ l => by rw [dM, pM]; have := dL_le l; split <;> omega
  theorem dL_le : ∀ l, dL l ≤ pL l
    | [] => by simp [dL]
    | t :: l => by rw [dL, pL]; have := dM_le t; have := dL_le l; omega
end
theorem pL_take (l : List Rt) (k : Nat) : pL (l.take k) ≤ pL l := by
  have h2 : pL l = pL (l.take k) + pL (l.drop k) := by rw [← pL_app, List.take_append_drop]
  omega
theorem max_nat (a b : Nat) : max (a : Int) (b : Int) = ((max a b : Nat) : Int) := by omega
theorem isg_any (k : Int) (r : Bool) (hr : decide (k = 5 ∨ k = 6) = r) (w : World) : Calls Try.prog 36 #[.int .i64 k] w fun e w' => e = .returned (.bool r) ∧ w = w' := by
  by_cases h5 : k = 5
  · have z5 : (k == 5) = true := beq_iff_eq.2 h5
    obtain rfl : r = true := by rw [← hr]; exact decide_eq_true (.inl h5)
    clear hr h5
    go_enter Try.func36, Try.ntmps36
    go_wp2
    go_ret
    exact ⟨rfl, rfl⟩
  · have z5 : (k == 5) = false := beq_eq_false_iff_ne.2 h5
    by_cases h6 : k = 6
    · have z6 : (k == 6) = true := beq_iff_eq.2 h6
      obtain rfl : r = true := by rw [← hr]; exact decide_eq_true (.inr h6)
      clear hr h5 h6
      go_enter Try.func36, Try.ntmps36
      go_wp2
      go_ret
      exact ⟨rfl, rfl⟩
    · have z6 : (k == 6) = false := beq_eq_false_iff_ne.2 h6
      obtain rfl : r = false := by rw [← hr]; exact decide_eq_false (by omega)
      clear hr h5 h6
      go_enter Try.func36, Try.ntmps36
      go_wp2
      go_ret
      exact ⟨rfl, rfl⟩
set_option maxHeartbeats 4000000 in
theorem parts_any {w0 : World} {t : Rt} (h : RxAt w0 t) (hp : pM t ≤ 100000) : ∀ w, Below w0.heap.size w0 w → Calls Try.prog 18 #[t.v] w fun e w' => e = .returned (.int .i64 (pM t : Nat)) ∧ Below w.heap.size w w' := by
  induction h with
  | mk t hr hk hs ih =>
    intro w hb0
    have hM := pM_eq t
    have hpM := pM_eq t
    have hK := hide hk
    have HB0 := hide hb0
    have HRX := hide (RxAt.mk t hr hk hs)
    have HIH := hide (fun i hi W hb => ih i hi (by have := pL_kid t.kids i hi; omega) W hb)
    obtain ⟨A, c, hkv⟩ := ksat_len hk
    have hln := len_pL t.kids
    unfold Rt.v Rt.cs
    rw [hkv]
    rw [hkv] at hK
    obtain ⟨kids, hkids⟩ : ∃ kids, t.kids = kids := ⟨_, rfl⟩
    have HP := hide (fun k => pL_take kids k)
    have HKE := hide hkids
    have HIH2 := hide (fun i (hi : i < kids.length) => (show ∃ h2 : i < t.kids.length, t.kids[i] = kids[i] by subst hkids; exact ⟨hi, rfl⟩))
    rw [hkids] at hM hpM hK hln
    obtain ⟨tk, htk⟩ : ∃ tk, t.k = tk := ⟨_, rfl⟩
    (try rw [htk] at hM)
    have HM := hide hM
    generalize t.rv = rv
    generalize t.ch = ch
    generalize t.nt = nt
    generalize t.mi = mi
    generalize t.ma = ma
    generalize t.lz = lz
    obtain ⟨pt, hpt⟩ : ∃ pt, pM t = pt := ⟨_, rfl⟩
    rw [hpt] at hpM hp
    rw [htk, hkids]
    clear hr hk hs ih hb0 hkv hkids htk hM
    have hba := bl_alloc (bl_refl w) (.cells #[.int .i64 tk, .string ch, .bool nt, rv, .int .i64 mi, .int .i64 ma, .bool lz, .slice A kids.length c] 26)
    have HBA := hide hba
    clear hba
    have f0 : (w.alloc (.cells #[.int .i64 tk, .string ch, .bool nt, rv, .int .i64 mi, .int .i64 ma, .bool lz, .slice A kids.length c] 26)).cell? ⟨w.heap.size, 0, none⟩ = some (.int .i64 tk) := cells_lit w _ _ 0 _ rfl
    have f7 : (w.alloc (.cells #[.int .i64 tk, .string ch, .bool nt, rv, .int .i64 mi, .int .i64 ma, .bool lz, .slice A kids.length c] 26)).cell? ⟨w.heap.size, 7, none⟩ = some (.slice A kids.length c) := cells_lit w _ _ 7 _ rfl
    have F0 := hide f0
    have F7 := hide f7
    go_enter Try.func18, Try.ntmps18
    go_wp2
    clear f0 f7
    go_loopw [3, 9] (fun s i wr => ∃ (k n : Nat), i = .int .i64 k ∧ s = .int .i64 n ∧ k ≤ kids.length ∧ n ≤ 200000 ∧ Hid (n = 1 + pL (kids.take k)) ∧ Hid (Below w.heap.size w wr) ∧ Hid (wr.cell? ⟨w.heap.size, 0, none⟩ = some (.int .i64 tk)) ∧ Hid (wr.cell? ⟨w.heap.size, 7, none⟩ = some (.slice A kids.length c))) (fun _ i _ => kids.length - (intOf i).toNat)
    case atStart => exact ⟨0, _, rfl, rfl, Nat.zero_le _, by decide, hide (by simp [pL]), HBA, F0, F7⟩
    case round =>
      obtain ⟨k, n, rfl, rfl, hk, hn, HJ, HBL, G0, G7⟩ := hrel
      have c0 := G0.out
      have c7 := G7.out
      by_cases hlt : k < kids.length
      · have HBW := hide (bl_trans HB0.out HBL.out)
        obtain ⟨b1, o1, c1, hv1, hc1, hm1, hlb1, hcell⟩ := ksat_8 (ksat_below hK.out HBW.out) (by omega)
        injection hv1 with hv1 _ hv1c
        subst hv1 hv1c
        unfold maxLen at hm1
        obtain ⟨x0, x1, x2, x3, x4, x5, x6, x7⟩ := hcell k hlt
        obtain ⟨h2, he⟩ := HIH2.out k hlt
        have HC := fun W hb => HIH.out k h2 W hb
        have hrx := HRX.out.kid k h2
        rw [he] at HC hrx
        have hsn := pL_snoc kids k hlt
        have hpk := pL_kid kids k hlt
        have hpt2 := HP.out (k + 1)
        have hml := Nat.le_refl (pM kids[k])
        clear hcell he h2
        obtain ⟨d, hd⟩ : ∃ d, kids[k] = d := ⟨_, rfl⟩
        rw [hd] at x0 x1 x2 x3 x4 x5 x6 x7 HC hsn hpk hml hrx
        obtain ⟨rA, rc, hrv⟩ := rwat_len hrx.rows
        obtain ⟨kA, kc, hkv⟩ := ksat_len hrx.ks
        rw [hrv] at x3
        rw [hkv] at x7
        obtain ⟨q, hq⟩ : ∃ q, pM d = q := ⟨_, rfl⟩
        rw [hq] at HC hsn hml
        have HJ2 := hide (show n + q = 1 + pL (kids.take (k + 1)) by have := HJ.out; omega)
        have hq2 : q ≤ 100000 := by omega
        unfold Rt.v Rt.cs at HC
        rw [hrv, hkv] at HC
        have HC2 := hide HC
        have gl : decide ((k : Int) < (kids.length : Int)) = true := decide_eq_true (by omega)
        have gl' : decide (k < kids.length) = true := decide_eq_true hlt
        have e5 : IntKind.i64.wrap ((k : Int) + 1) = (k : Int) + 1 := by rw [IntKind.wrap_i64]; omega
        have i1 : (0 : Int) ≤ (k : Int) := by omega
        have i2 : (k : Int) < (kids.length : Int) := by omega
        have hkn : (n + q) ≤ 200000 := by have := HJ2.out; have := pL_take kids (k + 1); omega
        clear hd hsn hpk hpt2 hml HC hq hrx hrv hkv
        have e6 : IntKind.i64.wrap ((n : Int) + (q : Int)) = ((n + q : Nat) : Int) := by rw [IntKind.wrap_i64]; omega
        have hba := bl_alloc (bl_refl wr) (.cells #[.int .i64 d.k, .string d.ch, .bool d.nt, .slice rA d.rows.length rc, .int .i64 d.mi, .int .i64 d.ma, .bool d.lz, .slice kA d.kids.length kc] 26)
        have HBC := hide (bl_trans HBL.out hba)
        have HBD := hide (bl_trans HB0.out HBC.out)
        have y0 := cell_later hba c0
        have y7 := cell_later hba c7
        clear hba
        go_wp2_with fail
        refine (HC2.out _ HBD.out).mono ?_
        rintro e w2 ⟨rfl, hb2⟩
        have HB3 := hide (bl_trans HBC.out hb2)
        have Z0 := hide (cell_later hb2 y0)
        have Z7 := hide (cell_later hb2 y7)
        clear hb2 x0 x1 x2 x3 x4 x5 x6 x7 c0 c7 y0 y7
        go_wp2
        refine ⟨?_, by first | (simp [intOf]; done) | (simp [intOf]; omega)⟩
        first
          | exact ⟨k + 1, n + q, by go_num, rfl, by omega, hkn, HJ2, HB3, Z0, Z7⟩
          | ((repeat apply Exists.intro); exact ⟨⟨k + 1, n + q, by go_num, rfl, by omega, hkn, HJ2, HB3, Z0, Z7⟩, rfl⟩)
      · obtain rfl : k = kids.length := by omega
        have gl : decide ((kids.length : Int) < (kids.length : Int)) = false := by simp
        have gl' : decide (kids.length < kids.length) = false := by simp
        have hj := HJ.out
        rw [List.take_length] at hj
        have HE := hide (show n = pM t by rw [HM.out]; exact hj)
        clear hj hlt
        go_wp2
        go_ret
        exact ⟨by rw [HE.out]; rfl, HBL.out⟩
set_option maxHeartbeats 4000000 in
theorem groups_any {w0 : World} {t : Rt} (h : RxAt w0 t) (hp : pM t ≤ 100000) : ∀ w, Below w0.heap.size w0 w → Calls Try.prog 17 #[t.v] w fun e w' => e = .returned (.int .i64 (gM t : Nat)) ∧ Below w.heap.size w w' := by
  induction h with
  | mk t hr hk hs ih =>
    intro w hb0
    have hM := gM_eq t
    have hpM := pM_eq t
    have hK := hide hk
    have HB0 := hide hb0
    have HRX := hide (RxAt.mk t hr hk hs)
    have HIH := hide (fun i hi W hb => ih i hi (by have := pL_kid t.kids i hi; omega) W hb)
    obtain ⟨A, c, hkv⟩ := ksat_len hk
    have hln := len_pL t.kids
    unfold Rt.v Rt.cs
    rw [hkv]
    rw [hkv] at hK
    obtain ⟨kids, hkids⟩ : ∃ kids, t.kids = kids := ⟨_, rfl⟩
    have HP := hide (fun k => pL_take kids k)
    have HKE := hide hkids
    have HIH2 := hide (fun i (hi : i < kids.length) => (show ∃ h2 : i < t.kids.length, t.kids[i] = kids[i] by subst hkids; exact ⟨hi, rfl⟩))
    rw [hkids] at hM hpM hK hln
    obtain ⟨tk, htk⟩ : ∃ tk, t.k = tk := ⟨_, rfl⟩
    (try rw [htk] at hM)
    have HM := hide hM
    generalize t.rv = rv
    generalize t.ch = ch
    generalize t.nt = nt
    generalize t.mi = mi
    generalize t.ma = ma
    generalize t.lz = lz
    obtain ⟨pt, hpt⟩ : ∃ pt, pM t = pt := ⟨_, rfl⟩
    rw [hpt] at hpM hp
    rw [htk, hkids]
    clear hr hk hs ih hb0 hkv hkids htk hM
    have hba := bl_alloc (bl_refl w) (.cells #[.int .i64 tk, .string ch, .bool nt, rv, .int .i64 mi, .int .i64 ma, .bool lz, .slice A kids.length c] 26)
    have HBA := hide hba
    clear hba
    have f0 : (w.alloc (.cells #[.int .i64 tk, .string ch, .bool nt, rv, .int .i64 mi, .int .i64 ma, .bool lz, .slice A kids.length c] 26)).cell? ⟨w.heap.size, 0, none⟩ = some (.int .i64 tk) := cells_lit w _ _ 0 _ rfl
    have f7 : (w.alloc (.cells #[.int .i64 tk, .string ch, .bool nt, rv, .int .i64 mi, .int .i64 ma, .bool lz, .slice A kids.length c] 26)).cell? ⟨w.heap.size, 7, none⟩ = some (.slice A kids.length c) := cells_lit w _ _ 7 _ rfl
    have F0 := hide f0
    have F7 := hide f7
    obtain ⟨z, hz⟩ : ∃ z : Nat, (if tk = 5 then 1 else 0) = z := ⟨_, rfl⟩
    have HM2 := hide (show gM t = z + gL kids by rw [HM.out, hz])
    have hz1 : z ≤ 1 := by rw [← hz]; split <;> omega
    have hz2 : (tk == 5) = true ∧ z = 1 ∨ (tk == 5) = false ∧ z = 0 := by
      by_cases h : tk = 5
      · left; exact ⟨beq_iff_eq.2 h, by rw [← hz, if_pos h]⟩
      · right; exact ⟨beq_eq_false_iff_ne.2 h, by rw [← hz, if_neg h]⟩
    clear hz HM
    go_enter Try.func17, Try.ntmps17
    rcases hz2 with ⟨q5, hz5⟩ | ⟨q5, hz5⟩
    all_goals
      have HZ5 := hide hz5
      clear hz5
      go_wp2
      clear f0 f7
      go_loopw [3, 12] (fun s i wr => ∃ (k n : Nat), i = .int .i64 k ∧ s = .int .i64 n ∧ k ≤ kids.length ∧ n ≤ 200000 ∧ Hid (n = z + gL (kids.take k)) ∧ Hid (Below w.heap.size w wr) ∧ Hid (wr.cell? ⟨w.heap.size, 0, none⟩ = some (.int .i64 tk)) ∧ Hid (wr.cell? ⟨w.heap.size, 7, none⟩ = some (.slice A kids.length c))) (fun _ i _ => kids.length - (intOf i).toNat)
      case atStart => exact ⟨0, _, rfl, rfl, Nat.zero_le _, by decide, hide (by simp [gL]; exact HZ5.out.symm), HBA, F0, F7⟩
      case round =>
        obtain ⟨k, n, rfl, rfl, hk, hn, HJ, HBL, G0, G7⟩ := hrel
        have c0 := G0.out
        have c7 := G7.out
        by_cases hlt : k < kids.length
        · have HBW := hide (bl_trans HB0.out HBL.out)
          obtain ⟨b1, o1, c1, hv1, hc1, hm1, hlb1, hcell⟩ := ksat_8 (ksat_below hK.out HBW.out) (by omega)
          injection hv1 with hv1 _ hv1c
          subst hv1 hv1c
          unfold maxLen at hm1
          obtain ⟨x0, x1, x2, x3, x4, x5, x6, x7⟩ := hcell k hlt
          obtain ⟨h2, he⟩ := HIH2.out k hlt
          have HC := fun W hb => HIH.out k h2 W hb
          have hrx := HRX.out.kid k h2
          rw [he] at HC hrx
          have hsn := gL_snoc kids k hlt
          have hpk := pL_kid kids k hlt
          have hpt2 := HP.out (k + 1)
          have hml := gM_le kids[k]
          clear hcell he h2
          obtain ⟨d, hd⟩ : ∃ d, kids[k] = d := ⟨_, rfl⟩
          rw [hd] at x0 x1 x2 x3 x4 x5 x6 x7 HC hsn hpk hml hrx
          obtain ⟨rA, rc, hrv⟩ := rwat_len hrx.rows
          obtain ⟨kA, kc, hkv⟩ := ksat_len hrx.ks
          rw [hrv] at x3
          rw [hkv] at x7
          obtain ⟨q, hq⟩ : ∃ q, gM d = q := ⟨_, rfl⟩
          rw [hq] at HC hsn hml
          have HJ2 := hide (show n + q = z + gL (kids.take (k + 1)) by have := HJ.out; omega)
          have hq2 : q ≤ 100000 := by omega
          unfold Rt.v Rt.cs at HC
          rw [hrv, hkv] at HC
          have HC2 := hide HC
          have gl : decide ((k : Int) < (kids.length : Int)) = true := decide_eq_true (by omega)
          have gl' : decide (k < kids.length) = true := decide_eq_true hlt
          have e5 : IntKind.i64.wrap ((k : Int) + 1) = (k : Int) + 1 := by rw [IntKind.wrap_i64]; omega
          have i1 : (0 : Int) ≤ (k : Int) := by omega
          have i2 : (k : Int) < (kids.length : Int) := by omega
          have hkn : (n + q) ≤ 200000 := by have := HJ2.out; have := pL_take kids (k + 1); have := gL_le (kids.take (k + 1)); omega
          clear hd hsn hpk hpt2 hml HC hq hrx hrv hkv
          have e6 : IntKind.i64.wrap ((n : Int) + (q : Int)) = ((n + q : Nat) : Int) := by rw [IntKind.wrap_i64]; omega
          have hba := bl_alloc (bl_refl wr) (.cells #[.int .i64 d.k, .string d.ch, .bool d.nt, .slice rA d.rows.length rc, .int .i64 d.mi, .int .i64 d.ma, .bool d.lz, .slice kA d.kids.length kc] 26)
          have HBC := hide (bl_trans HBL.out hba)
          have HBD := hide (bl_trans HB0.out HBC.out)
          have y0 := cell_later hba c0
          have y7 := cell_later hba c7
          clear hba
          go_wp2_with fail
          refine (HC2.out _ HBD.out).mono ?_
          rintro e w2 ⟨rfl, hb2⟩
          have HB3 := hide (bl_trans HBC.out hb2)
          have Z0 := hide (cell_later hb2 y0)
          have Z7 := hide (cell_later hb2 y7)
          clear hb2 x0 x1 x2 x3 x4 x5 x6 x7 c0 c7 y0 y7
          go_wp2
          refine ⟨?_, by first | (simp [intOf]; done) | (simp [intOf]; omega)⟩
          first
            | exact ⟨k + 1, n + q, by go_num, rfl, by omega, hkn, HJ2, HB3, Z0, Z7⟩
            | ((repeat apply Exists.intro); exact ⟨⟨k + 1, n + q, by go_num, rfl, by omega, hkn, HJ2, HB3, Z0, Z7⟩, rfl⟩)
        · obtain rfl : k = kids.length := by omega
          have gl : decide ((kids.length : Int) < (kids.length : Int)) = false := by simp
          have gl' : decide (kids.length < kids.length) = false := by simp
          have hj := HJ.out
          rw [List.take_length] at hj
          have HE := hide (show n = gM t by rw [HM2.out]; exact hj)
          clear hj hlt
          go_wp2
          go_ret
          exact ⟨by rw [HE.out]; rfl, HBL.out⟩
set_option maxHeartbeats 4000000 in
theorem deep_any {w0 : World} {t : Rt} (h : RxAt w0 t) (hp : pM t ≤ 100000) : ∀ w, Below w0.heap.size w0 w → Calls Try.prog 22 #[t.v] w fun e w' => e = .returned (.int .i64 (dM t : Nat)) ∧ Below w.heap.size w w' := by
  induction h with
  | mk t hr hk hs ih =>
    intro w hb0
    have hM := dM_eq t
    have hpM := pM_eq t
    have hK := hide hk
    have HB0 := hide hb0
    have HRX := hide (RxAt.mk t hr hk hs)
    have HIH := hide (fun i hi W hb => ih i hi (by have := pL_kid t.kids i hi; omega) W hb)
    obtain ⟨A, c, hkv⟩ := ksat_len hk
    have hln := len_pL t.kids
    unfold Rt.v Rt.cs
    rw [hkv]
    rw [hkv] at hK
    obtain ⟨kids, hkids⟩ : ∃ kids, t.kids = kids := ⟨_, rfl⟩
    have HP := hide (fun k => pL_take kids k)
    have HKE := hide hkids
    have HIH2 := hide (fun i (hi : i < kids.length) => (show ∃ h2 : i < t.kids.length, t.kids[i] = kids[i] by subst hkids; exact ⟨hi, rfl⟩))
    rw [hkids] at hM hpM hK hln
    obtain ⟨tk, htk⟩ : ∃ tk, t.k = tk := ⟨_, rfl⟩
    (try rw [htk] at hM)
    have HM := hide hM
    generalize t.rv = rv
    generalize t.ch = ch
    generalize t.nt = nt
    generalize t.mi = mi
    generalize t.ma = ma
    generalize t.lz = lz
    obtain ⟨pt, hpt⟩ : ∃ pt, pM t = pt := ⟨_, rfl⟩
    rw [hpt] at hpM hp
    rw [htk, hkids]
    clear hr hk hs ih hb0 hkv hkids htk hM
    have hba := bl_alloc (bl_refl w) (.cells #[.int .i64 tk, .string ch, .bool nt, rv, .int .i64 mi, .int .i64 ma, .bool lz, .slice A kids.length c] 26)
    have HBA := hide hba
    clear hba
    have f0 : (w.alloc (.cells #[.int .i64 tk, .string ch, .bool nt, rv, .int .i64 mi, .int .i64 ma, .bool lz, .slice A kids.length c] 26)).cell? ⟨w.heap.size, 0, none⟩ = some (.int .i64 tk) := cells_lit w _ _ 0 _ rfl
    have f7 : (w.alloc (.cells #[.int .i64 tk, .string ch, .bool nt, rv, .int .i64 mi, .int .i64 ma, .bool lz, .slice A kids.length c] 26)).cell? ⟨w.heap.size, 7, none⟩ = some (.slice A kids.length c) := cells_lit w _ _ 7 _ rfl
    have F0 := hide f0
    have F7 := hide f7
    obtain ⟨z, hz⟩ : ∃ z, decide (tk = 5 ∨ tk = 6) = z := ⟨_, rfl⟩
    have HM2 := hide (show dM t = dL kids + (if z = true then 1 else 0) by
      rw [HM.out, ← hz]
      by_cases h : tk = 5 ∨ tk = 6
      · rw [if_pos h, decide_eq_true h, if_pos rfl]
      · rw [if_neg h, decide_eq_false h, if_neg (by simp)])
    have HIS := hide (fun W => isg_any tk z hz W)
    clear HM
    clear hz
    go_enter Try.func22, Try.ntmps22
    go_wp2
    clear f0 f7
    go_loopw [3, 9] (fun s i wr => ∃ (k n : Nat), i = .int .i64 k ∧ s = .int .i64 n ∧ k ≤ kids.length ∧ n ≤ 200000 ∧ Hid (n = dL (kids.take k)) ∧ Hid (Below w.heap.size w wr) ∧ Hid (wr.cell? ⟨w.heap.size, 0, none⟩ = some (.int .i64 tk)) ∧ Hid (wr.cell? ⟨w.heap.size, 7, none⟩ = some (.slice A kids.length c))) (fun _ i _ => kids.length - (intOf i).toNat)
    case atStart => exact ⟨0, _, rfl, rfl, Nat.zero_le _, by decide, hide (by simp [dL]), HBA, F0, F7⟩
    case round =>
      obtain ⟨k, n, rfl, rfl, hk, hn, HJ, HBL, G0, G7⟩ := hrel
      have c0 := G0.out
      have c7 := G7.out
      by_cases hlt : k < kids.length
      · have HBW := hide (bl_trans HB0.out HBL.out)
        obtain ⟨b1, o1, c1, hv1, hc1, hm1, hlb1, hcell⟩ := ksat_8 (ksat_below hK.out HBW.out) (by omega)
        injection hv1 with hv1 _ hv1c
        subst hv1 hv1c
        unfold maxLen at hm1
        obtain ⟨x0, x1, x2, x3, x4, x5, x6, x7⟩ := hcell k hlt
        obtain ⟨h2, he⟩ := HIH2.out k hlt
        have HC := fun W hb => HIH.out k h2 W hb
        have hrx := HRX.out.kid k h2
        rw [he] at HC hrx
        have hsn := dL_snoc kids k hlt
        have hpk := pL_kid kids k hlt
        have hpt2 := HP.out (k + 1)
        have hml := dM_le kids[k]
        clear hcell he h2
        obtain ⟨d, hd⟩ : ∃ d, kids[k] = d := ⟨_, rfl⟩
        rw [hd] at x0 x1 x2 x3 x4 x5 x6 x7 HC hsn hpk hml hrx
        obtain ⟨rA, rc, hrv⟩ := rwat_len hrx.rows
        obtain ⟨kA, kc, hkv⟩ := ksat_len hrx.ks
        rw [hrv] at x3
        rw [hkv] at x7
        obtain ⟨q, hq⟩ : ∃ q, dM d = q := ⟨_, rfl⟩
        rw [hq] at HC hsn hml
        have HJ2 := hide (show max n q = dL (kids.take (k + 1)) by have := HJ.out; omega)
        have hq2 : q ≤ 100000 := by omega
        unfold Rt.v Rt.cs at HC
        rw [hrv, hkv] at HC
        have HC2 := hide HC
        have gl : decide ((k : Int) < (kids.length : Int)) = true := decide_eq_true (by omega)
        have gl' : decide (k < kids.length) = true := decide_eq_true hlt
        have e5 : IntKind.i64.wrap ((k : Int) + 1) = (k : Int) + 1 := by rw [IntKind.wrap_i64]; omega
        have i1 : (0 : Int) ≤ (k : Int) := by omega
        have i2 : (k : Int) < (kids.length : Int) := by omega
        have hkn : (max n q) ≤ 200000 := by have := HJ2.out; have := pL_take kids (k + 1); have := dL_le (kids.take (k + 1)); omega
        clear hd hsn hpk hpt2 hml HC hq hrx hrv hkv
        have e6 := max_nat n q
        have hba := bl_alloc (bl_refl wr) (.cells #[.int .i64 d.k, .string d.ch, .bool d.nt, .slice rA d.rows.length rc, .int .i64 d.mi, .int .i64 d.ma, .bool d.lz, .slice kA d.kids.length kc] 26)
        have HBC := hide (bl_trans HBL.out hba)
        have HBD := hide (bl_trans HB0.out HBC.out)
        have y0 := cell_later hba c0
        have y7 := cell_later hba c7
        clear hba
        go_wp2_with fail
        refine (HC2.out _ HBD.out).mono ?_
        rintro e w2 ⟨rfl, hb2⟩
        have HB3 := hide (bl_trans HBC.out hb2)
        have Z0 := hide (cell_later hb2 y0)
        have Z7 := hide (cell_later hb2 y7)
        clear hb2 x0 x1 x2 x3 x4 x5 x6 x7 c0 c7 y0 y7
        go_wp2
        refine ⟨?_, by first | (simp [intOf]; done) | (simp [intOf]; omega)⟩
        first
          | exact ⟨k + 1, max n q, by go_num, rfl, by omega, hkn, HJ2, HB3, Z0, Z7⟩
          | ((repeat apply Exists.intro); exact ⟨⟨k + 1, max n q, by go_num, rfl, by omega, hkn, HJ2, HB3, Z0, Z7⟩, rfl⟩)
      · obtain rfl : k = kids.length := by omega
        have gl : decide ((kids.length : Int) < (kids.length : Int)) = false := by simp
        have gl' : decide (kids.length < kids.length) = false := by simp
        have hj := HJ.out
        rw [List.take_length] at hj
        have e7 : IntKind.i64.wrap ((n : Int) + 1) = ((n + 1 : Nat) : Int) := by rw [IntKind.wrap_i64]; omega
        have HM3 := HM2.out
        rw [← hj] at HM3
        clear hj hlt
        go_wp2_with fail
        refine (HIS.out _).mono ?_
        rintro e w2 ⟨rfl, rfl⟩
        cases z
        · have HE := hide (show n = dM t by rw [HM3]; simp)
          clear HM3
          go_wp2
          go_ret
          exact ⟨by rw [HE.out]; rfl, HBL.out⟩
        · have HE := hide (show n + 1 = dM t by rw [HM3]; simp)
          clear HM3
          go_wp2
          go_ret
          exact ⟨by rw [← HE.out]; rfl, HBL.out⟩
end Go.Proofs.Ytcgphknnnjpbkaa
