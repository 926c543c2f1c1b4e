/- Contracts: the order of rows as the sort asks for it; two slices of rows held against one another; is a row one; is a text in one of some rows. No condition but short texts. -/
import Derived.Test.YtcgphknnnjpbkaaRowA
import Derived.Test.YtcgphknnnjpbkaaSetC
import Derived.Deep.RegionWith
import Derived.Deep.QuietTactic
import Derived.BigQuiet
import Derived.Sort.Grow
import Derived.Deep.RegionHeld3
import Derived.Deep.DrawnRows
namespace Go.Proofs.Ytcgphknnnjpbkaa
open Go.ChangeShapes Go.WideShapes Go.ChangeAt Go.RowKit
open SetM
attribute [local go_sem ↓] Go.wp_at_zero Go.wp_at_succ
def cmpT (x y : ByteArray) : Int := if bl x y = true then -1 else if bl y x = true then 1 else 0
def cmpR (a b : Rw) : Int := if cmpT a.1 b.1 = 0 then cmpT a.2 b.2 else cmpT a.1 b.1
theorem nan_any (x : ByteArray) (w : World) : Calls Try.prog 58 #[.string x] w fun e w' => e = .returned (.bool false) ∧ w = w' := by
  have hx : (x.toList == x.toList) = true := by simp
  go_enter Try.func58, Try.ntmps58
  go_wp2
  go_ret
  exact ⟨rfl, rfl⟩
set_option maxRecDepth 100000 in
set_option maxHeartbeats 400000 in
theorem cmp_any (x y : ByteArray) (w : World) : Calls Try.prog 41 #[.string x, .string y] w fun e w' => e = .returned (.int .i64 (cmpT x y)) ∧ w = w' := by
  have HE := hide (show cmpT x y = if bl x y = true then -1 else if bl y x = true then 1 else 0 from rfl)
  have HB := hide (show bl x y = Op.bytesLess x.toList y.toList from rfl)
  have HL := hide (le_or x y)
  generalize cmpT x y = r at *
  cases h1 : bl x y
  · cases h2 : bl y x
    · have h3 : Op.bytesLess x.toList y.toList = false := h1
      have h4 : (x.toList == y.toList) = true := by
        have := HL.out; rw [h1, h2] at this; simpa [eqB] using this
      have h5 : r = 0 := by rw [HE.out, h1, h2]; rfl
      clear h1 h2 HE HB HL
      go_enter Try.func41, Try.ntmps41
      go_wp2_with (go_at_call 58; refine (nan_any _ _).mono ?_; rintro e w1 ⟨rfl, rfl⟩)
      go_ret
      exact ⟨ret_int h5.symm, rfl⟩
    · have h3 : Op.bytesLess x.toList y.toList = false := h1
      have h4 : (x.toList == y.toList) = false := by
        have := HL.out; rw [h1, h2] at this; simpa [eqB] using this
      have h5 : r = 1 := by rw [HE.out, h1, h2]; rfl
      clear h1 h2 HE HB HL
      go_enter Try.func41, Try.ntmps41
      go_wp2_with (go_at_call 58; refine (nan_any _ _).mono ?_; rintro e w1 ⟨rfl, rfl⟩)
      go_ret
      exact ⟨ret_int h5.symm, rfl⟩
  · have h3 : Op.bytesLess x.toList y.toList = true := h1
    have h5 : r = -1 := by rw [HE.out, h1]; rfl
    clear h1 HE HB HL
    go_enter Try.func41, Try.ntmps41
    go_wp2_with (go_at_call 58; refine (nan_any _ _).mono ?_; rintro e w1 ⟨rfl, rfl⟩)
    go_ret
    exact ⟨ret_int h5.symm, rfl⟩
set_option maxRecDepth 100000 in
set_option maxHeartbeats 1000000 in
theorem or_any (b : Nat) (x y r : Int) (w : World) (h0 : w.cell? ⟨b, 0, none⟩ = some (.int .i64 x)) (h1 : w.cell? ⟨b, 1, none⟩ = some (.int .i64 y)) (hr : (if x = 0 then y else x) = r) :
    Calls Try.prog 40 #[.slice (some ⟨b, 0, none⟩) 2 2] w fun e w' => e = .returned (.int .i64 r) ∧ w = w' := by
  have HR := hide hr
  clear hr
  by_cases hx : x = 0
  · have hx2 : (x != 0) = false := by simp [hx]
    by_cases hy : y = 0
    · have hy2 : (y != 0) = false := by simp [hy]
      have hf : r = 0 := by rw [← HR.out, if_pos hx, hy]
      clear hx hy HR
      go_enter Try.func40, Try.ntmps40
      go_wp2
      refine wp_loop_rounds 3 ?_
      rw [rounds_succ]; go_wp2
      rw [rounds_succ]; go_wp2
      rw [rounds_succ]; go_wp2
      go_ret
      exact ⟨ret_int hf.symm, rfl⟩
    · have hy2 : (y != 0) = true := by simp [hy]
      have hf : r = y := by rw [← HR.out, if_pos hx]
      clear hx hy HR
      go_enter Try.func40, Try.ntmps40
      go_wp2
      refine wp_loop_rounds 3 ?_
      rw [rounds_succ]; go_wp2
      rw [rounds_succ]; go_wp2
      go_ret
      exact ⟨ret_int hf.symm, rfl⟩
  · have hx2 : (x != 0) = true := by simp [hx]
    have hf : r = x := by rw [← HR.out, if_neg hx]
    clear hx HR
    go_enter Try.func40, Try.ntmps40
    go_wp2
    refine wp_loop_rounds 3 ?_
    rw [rounds_succ]; go_wp2
    go_ret
    exact ⟨ret_int hf.symm, rfl⟩
set_option maxRecDepth 100000 in
set_option maxHeartbeats 2000000 in
theorem closure_any (a b : Rw) (w : World) : Calls Try.prog 39 #[.agg #[.string a.1, .string a.2], .agg #[.string b.1, .string b.2]] w fun e w' => e = .returned (.int .i64 (cmpR a b)) ∧ ∃ q os', w' = Go.Sort.grow (w.drewN q) os' := by
  obtain ⟨a1, a2⟩ := a
  obtain ⟨b1, b2⟩ := b
  have HE := hide (show cmpR (a1, a2) (b1, b2) = if cmpT a1 b1 = 0 then cmpT a2 b2 else cmpT a1 b1 from rfl)
  generalize cmpR (a1, a2) (b1, b2) = r at *
  go_enter Try.func39, Try.ntmps39
  go_wp2
  go_region_held3 (fun w' => w'.cell? ⟨w.heap.size, 0, none⟩ = some (.string a1) ∧ w'.cell? ⟨w.heap.size, 1, none⟩ = some (.string a2) ∧ w'.cell? ⟨w.heap.size + 1, 0, none⟩ = some (.string b1) ∧ w'.cell? ⟨w.heap.size + 1, 1, none⟩ = some (.string b2)) (go_keep)
    (first | (go_at_call 41; refine (cmp_any _ _ _).mono ?_; rintro e w1 ⟨rfl, rfl⟩) | (go_at_call 40; refine (or_any _ (cmpT a1 b1) (cmpT a2 b2) r _ (by go_simp) (by go_simp) HE.out.symm).mono ?_; rintro e w1 ⟨rfl, rfl⟩))
  all_goals
    go_wp2
    go_ret
    exact ⟨rfl, 1, _, by rw [Go.Sort.alloc_eq_grow, Go.Sort.alloc_eq_grow, Go.Sort.alloc_eq_grow, Go.Sort.grow_grow, Go.Sort.grow_grow]; rfl⟩
theorem tl_iff (a b : ByteArray) : a.toList = b.toList ↔ a = b := by
  rw [Go.ByteArray.toList_eq, Go.ByteArray.toList_eq]; exact ⟨ext a b, fun h => by rw [h]⟩
theorem neq_rw (a b : Rw) (w : World) : (binOp .neq 47 (.agg #[.string a.1, .string a.2]) (.agg #[.string b.1, .string b.2])).run Try.prog w = .ok (.bool (!decide (a = b))) w := by
  obtain ⟨a1, a2⟩ := a
  obtain ⟨b1, b2⟩ := b
  show (binOp .neq 47 (.agg #[.string a1, .string a2]) (.agg #[.string b1, .string b2])).run Try.prog w = .ok (.bool (!decide ((a1, a2) = (b1, b2)))) w
  go_simp
  by_cases h1 : a1 = b1 <;> by_cases h2 : a2 = b2 <;> simp [h1, h2, tl_iff]
theorem eql_rw (a b : Rw) (w : World) : (binOp .eql 47 (.agg #[.string a.1, .string a.2]) (.agg #[.string b.1, .string b.2])).run Try.prog w = .ok (.bool (decide (a = b))) w := by
  obtain ⟨a1, a2⟩ := a
  obtain ⟨b1, b2⟩ := b
  show (binOp .eql 47 (.agg #[.string a1, .string a2]) (.agg #[.string b1, .string b2])).run Try.prog w = .ok (.bool (decide ((a1, a2) = (b1, b2)))) w
  go_simp
  by_cases h1 : a1 = b1 <;> by_cases h2 : a2 = b2 <;> simp [h1, h2, tl_iff]
theorem eqgn_rw (x y : Operand) (a b : Rw) (w : World) : (eqGuard .neq 47 x y (.agg #[.string a.1, .string a.2]) (.agg #[.string b.1, .string b.2])).run Try.prog w = .ok () w :=
  run_eqGuard_agg _ _ _ _ _ _ _ (by kernel_rfl)
theorem eqge_rw (x y : Operand) (a b : Rw) (w : World) : (eqGuard .eql 47 x y (.agg #[.string a.1, .string a.2]) (.agg #[.string b.1, .string b.2])).run Try.prog w = .ok () w :=
  run_eqGuard_agg _ _ _ _ _ _ _ (by kernel_rfl)
theorem take_eq_succ {α : Type} (l m : List α) (k : Nat) (h : k < l.length) (g : k < m.length) (e : l.take k = m.take k) (e2 : l[k] = m[k]) : l.take (k + 1) = m.take (k + 1) := by
  rw [List.take_succ_eq_append_getElem h, List.take_succ_eq_append_getElem g, e, e2]
attribute [local go_sem] eqgn_rw eqge_rw
attribute [local go_sem ↓] neq_rw eql_rw
end Go.Proofs.Ytcgphknnnjpbkaa
