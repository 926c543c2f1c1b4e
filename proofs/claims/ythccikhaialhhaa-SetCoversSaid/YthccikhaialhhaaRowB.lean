/- Contracts: the order of rows as the sort asks for it; two slices of rows held against one another; is a row one; is a text in one of some rows. No condition but short texts. -/
import Derived.Test.YthccikhaialhhaaRowA
import Derived.Test.YthccikhaialhhaaSetC
import Derived.Deep.RegionWith
import Derived.Deep.QuietTactic
import Derived.BigQuiet
import Derived.Sort.Grow
import Derived.Deep.RegionHeld3
import Derived.Deep.DrawnRows
namespace Go.Proofs.Ythccikhaialhhaa
open Go.ChangeShapes Go.WideShapes Go.ChangeAt Go.RowKit
open SetM
attribute [local go_sem ↓] Go.wp_at_zero Go.wp_at_succ
def cmpT (x y : ByteArray) : Int := if bl x y = true then -1 else if bl y x = true then 1 else 0
def cmpR (a b : Rw) : Int := if cmpT a.1 b.1 = 0 then cmpT a.2 b.2 else cmpT a.1 b.1
theorem nan_any (x : ByteArray) (w : World) : Calls Try.prog 41 #[.string x] w fun e w' => e = .returned (.bool false) ∧ w = w' := by
  have hx : (x.toList == x.toList) = true := by simp
  go_enter Try.func41, Try.ntmps41
  go_wp2
  go_ret
  exact ⟨rfl, rfl⟩
set_option maxRecDepth 100000 in
set_option maxHeartbeats 400000 in
theorem cmp_any (x y : ByteArray) (w : World) : Calls Try.prog 30 #[.string x, .string y] w fun e w' => e = .returned (.int .i64 (cmpT x y)) ∧ w = w' := by
  have HE := hide (show cmpT x y = if bl x y = true then -1 else if bl y x = true then 1 else 0 from rfl)
  have HB := hide (show bl x y = Op.bytesLess x.toList y.toList from rfl)
  have HL := hide (le_or x y)
  generalize cmpT x y = r at *
  cases h1 : bl x y
  · cases h2 : bl y x
    · have h3 : Op.bytesLess x.toList y.toList = false := h1
      have h4 : (x.toList == y.toList) = true := by
        have := HL.out; rw [h1, h2] at this; simpa [eqB] using this
      have h5 : r = 0 := by rw [HE.out, h1, h2]; rfl
      clear h1 h2 HE HB HL
      go_enter Try.func30, Try.ntmps30
      go_wp2_with (go_at_call 41; refine (nan_any _ _).mono ?_; rintro e w1 ⟨rfl, rfl⟩)
      go_ret
      exact ⟨ret_int h5.symm, rfl⟩
    · have h3 : Op.bytesLess x.toList y.toList = false := h1
      have h4 : (x.toList == y.toList) = false := by
        have := HL.out; rw [h1, h2] at this; simpa [eqB] using this
      have h5 : r = 1 := by rw [HE.out, h1, h2]; rfl
      clear h1 h2 HE HB HL
      go_enter Try.func30, Try.ntmps30
      go_wp2_with (go_at_call 41; refine (nan_any _ _).mono ?_; rintro e w1 ⟨rfl, rfl⟩)
      go_ret
      exact ⟨ret_int h5.symm, rfl⟩
  · have h3 : Op.bytesLess x.toList y.toList = true := h1
    have h5 : r = -1 := by rw [HE.out, h1]; rfl
    clear h1 HE HB HL
    go_enter Try.func30, Try.ntmps30
    go_wp2_with (go_at_call 41; refine (nan_any _ _).mono ?_; rintro e w1 ⟨rfl, rfl⟩)
    go_ret
    exact ⟨ret_int h5.symm, rfl⟩
set_option maxRecDepth 100000 in
set_option maxHeartbeats 1000000 in
theorem or_any (b : Nat) (x y r : Int) (w : World) (h0 : w.cell? ⟨b, 0, none⟩ = some (.int .i64 x)) (h1 : w.cell? ⟨b, 1, none⟩ = some (.int .i64 y)) (hr : (if x = 0 then y else x) = r) :
    Calls Try.prog 29 #[.slice (some ⟨b, 0, none⟩) 2 2] w fun e w' => e = .returned (.int .i64 r) ∧ w = w' := by
  have HR := hide hr
  clear hr
  by_cases hx : x = 0
  · have hx2 : (x != 0) = false := by simp [hx]
    by_cases hy : y = 0
    · have hy2 : (y != 0) = false := by simp [hy]
      have hf : r = 0 := by rw [← HR.out, if_pos hx, hy]
      clear hx hy HR
      go_enter Try.func29, Try.ntmps29
      go_wp2
      refine wp_loop_rounds 3 ?_
      rw [rounds_succ]; go_wp2
      rw [rounds_succ]; go_wp2
      rw [rounds_succ]; go_wp2
      go_ret
      exact ⟨ret_int hf.symm, rfl⟩
    · have hy2 : (y != 0) = true := by simp [hy]
      have hf : r = y := by rw [← HR.out, if_pos hx]
      clear hx hy HR
      go_enter Try.func29, Try.ntmps29
      go_wp2
      refine wp_loop_rounds 3 ?_
      rw [rounds_succ]; go_wp2
      rw [rounds_succ]; go_wp2
      go_ret
      exact ⟨ret_int hf.symm, rfl⟩
  · have hx2 : (x != 0) = true := by simp [hx]
    have hf : r = x := by rw [← HR.out, if_neg hx]
    clear hx HR
    go_enter Try.func29, Try.ntmps29
    go_wp2
    refine wp_loop_rounds 3 ?_
    rw [rounds_succ]; go_wp2
    go_ret
    exact ⟨ret_int hf.symm, rfl⟩
set_option maxRecDepth 100000 in
set_option maxHeartbeats 2000000 in
theorem closure_any (a b : Rw) (w : World) : Calls Try.prog 28 #[.agg #[.string a.1, .string a.2], .agg #[.string b.1, .string b.2]] w fun e w' => e = .returned (.int .i64 (cmpR a b)) ∧ ∃ q os', w' = Go.Sort.grow (w.drewN q) os' := by
  obtain ⟨a1, a2⟩ := a
  obtain ⟨b1, b2⟩ := b
  have HE := hide (show cmpR (a1, a2) (b1, b2) = if cmpT a1 b1 = 0 then cmpT a2 b2 else cmpT a1 b1 from rfl)
  generalize cmpR (a1, a2) (b1, b2) = r at *
  go_enter Try.func28, Try.ntmps28
  go_wp2
  go_region_held3 (fun w' => w'.cell? ⟨w.heap.size, 0, none⟩ = some (.string a1) ∧ w'.cell? ⟨w.heap.size, 1, none⟩ = some (.string a2) ∧ w'.cell? ⟨w.heap.size + 1, 0, none⟩ = some (.string b1) ∧ w'.cell? ⟨w.heap.size + 1, 1, none⟩ = some (.string b2)) (go_keep)
    (first | (go_at_call 30; refine (cmp_any _ _ _).mono ?_; rintro e w1 ⟨rfl, rfl⟩) | (go_at_call 29; refine (or_any _ (cmpT a1 b1) (cmpT a2 b2) r _ (by go_simp) (by go_simp) HE.out.symm).mono ?_; rintro e w1 ⟨rfl, rfl⟩))
  all_goals
    go_wp2
    go_ret
    exact ⟨rfl, 1, _, by rw [Go.Sort.alloc_eq_grow, Go.Sort.alloc_eq_grow, Go.Sort.alloc_eq_grow, Go.Sort.grow_grow, Go.Sort.grow_grow]; rfl⟩
theorem tl_iff (a b : ByteArray) : a.toList = b.toList ↔ a = b := by
  rw [Go.ByteArray.toList_eq, Go.ByteArray.toList_eq]; exact ⟨ext a b, fun h => by rw [h]⟩
theorem neq_rw (a b : Rw) (w : World) : (binOp .neq 36 (.agg #[.string a.1, .string a.2]) (.agg #[.string b.1, .string b.2])).run Try.prog w = .ok (.bool (!decide (a = b))) w := by
  obtain ⟨a1, a2⟩ := a
  obtain ⟨b1, b2⟩ := b
  show (binOp .neq 36 (.agg #[.string a1, .string a2]) (.agg #[.string b1, .string b2])).run Try.prog w = .ok (.bool (!decide ((a1, a2) = (b1, b2)))) w
  go_simp
  by_cases h1 : a1 = b1 <;> by_cases h2 : a2 = b2 <;> simp [h1, h2, tl_iff]
theorem eql_rw (a b : Rw) (w : World) : (binOp .eql 36 (.agg #[.string a.1, .string a.2]) (.agg #[.string b.1, .string b.2])).run Try.prog w = .ok (.bool (decide (a = b))) w := by
  obtain ⟨a1, a2⟩ := a
  obtain ⟨b1, b2⟩ := b
  show (binOp .eql 36 (.agg #[.string a1, .string a2]) (.agg #[.string b1, .string b2])).run Try.prog w = .ok (.bool (decide ((a1, a2) = (b1, b2)))) w
  go_simp
  by_cases h1 : a1 = b1 <;> by_cases h2 : a2 = b2 <;> simp [h1, h2, tl_iff]
theorem eqgn_rw (x y : Operand) (a b : Rw) (w : World) : (eqGuard .neq 36 x y (.agg #[.string a.1, .string a.2]) (.agg #[.string b.1, .string b.2])).run Try.prog w = .ok () w :=
  run_eqGuard_agg _ _ _ _ _ _ _ (by kernel_rfl)
theorem eqge_rw (x y : Operand) (a b : Rw) (w : World) : (eqGuard .eql 36 x y (.agg #[.string a.1, .string a.2]) (.agg #[.string b.1, .string b.2])).run Try.prog w = .ok () w :=
  run_eqGuard_agg _ _ _ _ _ _ _ (by kernel_rfl)
theorem take_eq_succ {α : Type} (l m : List α) (k : Nat) (h : k < l.length) (g : k < m.length) (e : l.take k = m.take k) (e2 : l[k] = m[k]) : l.take (k + 1) = m.take (k + 1) := by
  rw [List.take_succ_eq_append_getElem h, List.take_succ_eq_append_getElem g, e, e2]
attribute [local go_sem] eqgn_rw eqge_rw
attribute [local go_sem ↓] neq_rw eql_rw
set_option maxRecDepth 100000 in
set_option maxHeartbeats 1000000 in
theorem rows_any (v u : Value) (l k : List Rw) (w : World) (h : RwAt w v l) (g : RwAt w u k) (hl : l.length ≤ 1000) (hk : k.length ≤ 1000) :
    Calls Try.prog 13 #[v, u] w fun e w' => e = .returned (.bool (decide (l = k))) ∧ ∃ n, w' = w.drewN n := by
  obtain ⟨a, c, rfl⟩ := rwat_len h
  obtain ⟨b, d, rfl⟩ := rwat_len g
  by_cases hlen : l.length = k.length
  · have e1 : ((l.length : Int) != (k.length : Int)) = false := by simp [hlen]
    by_cases hp : 0 < l.length
    · obtain ⟨b1, o1, c1, hv1, hc1, hm1, _, hcell1⟩ := rwat_some h hp
      obtain ⟨b2, o2, c2, hv2, hc2, hm2, _, hcell2⟩ := rwat_some g (by omega)
      injection hv1 with hv1 _ hv1c
      injection hv2 with hv2 _ hv2c
      subst hv1 hv2 hv1c hv2c
      unfold maxLen at hm1 hm2
      clear h g hp
      obtain ⟨r, hr⟩ : ∃ r, decide (l = k) = r := ⟨_, rfl⟩
      rw [hr]
      have HRR := hide hr.symm
      clear hr
      have HL := hide hlen
      have hlen' : l.length ≤ k.length := by omega
      clear hlen
      go_enter Try.func13, Try.ntmps13
      go_wp2
      go_loopw [5] (fun i wr => ∃ j n : Nat, j ≤ l.length ∧ i = .int .i64 j ∧ Hid (l.take j = k.take j) ∧ w.drewN n = wr)
        (fun i _ => l.length - (intOf i).toNat)
      case atStart => exact ⟨0, 0, Nat.zero_le _, rfl, hide rfl, rfl⟩
      case round =>
        obtain ⟨j, n, hj, rfl, HT, rfl⟩ := hrel
        by_cases hlt : j < l.length
        · have x1 := hcell1 j hlt
          have x2 := hcell2 j (by omega)
          obtain ⟨x11, x12⟩ := x1
          obtain ⟨x21, x22⟩ := x2
          by_cases he : l[j] = k[j]
          · have hd : (!decide (l[j] = k[j])) = false := by simp [he]
            have HT2 := hide (take_eq_succ l k j hlt (by omega) HT.out he)
            clear he HT
            go_wp2
            go_quiet (fail)
            go_wp2
            refine ⟨?_, by first | (simp [intOf]; done) | (simp [intOf]; omega)⟩
            first
              | exact ⟨j + 1, _, by omega, by go_num, HT2, by first | rfl | trivial⟩
              | ((repeat apply Exists.intro); exact ⟨⟨j + 1, _, by omega, by go_num, HT2, by first | rfl | trivial⟩, rfl⟩)
          · have hd : (!decide (l[j] = k[j])) = true := by simp [he]
            have hne : decide (l = k) = false := by
              simp only [decide_eq_false_iff_not]
              intro h; subst h; exact he rfl
            have HNE := hide (HRR.out.trans hne)
            clear he HT hne
            go_wp2
            go_quiet (fail)
            go_wp2
            go_ret
            exact ⟨ret_bool HNE.out.symm, _, by rw [World.drewN_drewN]⟩
        · obtain rfl : j = l.length := by omega
          have he : l = k := by
            have h1 := HT.out
            rw [List.take_of_length_le (by omega), List.take_of_length_le (by have := HL.out; omega)] at h1
            exact h1
          have hne : decide (l = k) = true := by simp [he]
          have HNE := hide (HRR.out.trans hne)
          clear HT he hne hcell1 hcell2
          go_wp2
          go_ret
          exact ⟨ret_bool HNE.out.symm, n, rfl⟩
    · have h1 : l = [] := List.eq_nil_of_length_eq_zero (by omega)
      have h2 : k = [] := List.eq_nil_of_length_eq_zero (by omega)
      subst h1 h2
      clear h g hl hk hlen hp e1
      go_enter Try.func13, Try.ntmps13
      go_wp2
      refine wp_loop_rounds 2 ?_
      rw [rounds_succ]; go_wp2
      go_ret
      exact ⟨rfl, 0, rfl⟩
  · have e1 : ((l.length : Int) != (k.length : Int)) = true := by simp; omega
    have e2 : decide (l = k) = false := by simp; intro h; rw [h] at hlen; exact hlen rfl
    rw [e2]
    clear e2 hlen h g
    go_enter Try.func13, Try.ntmps13
    go_wp2
    go_ret
    exact ⟨rfl, 0, rfl⟩
end Go.Proofs.Ythccikhaialhhaa
