/- Contracts: are two trees the same, part by part. No condition. -/
import Derived.Test.YtmacpmblodhcpaaDoorRxM
namespace Go.Proofs.YtmacpmblodhcpaaDoor
open Go.ChangeShapes Go.WideShapes Go.ChangeAt Go.RowKit
open SetM
attribute [local go_sem ↓] Go.wp_at_zero Go.wp_at_succ
set_option maxRecDepth 100000
set_option linter.unusedVariables false
mutual
  def sameM : Rt → Rt → Bool
    | .mk k ch nt _ rows mi ma lz _ l, .mk k' ch' nt' _ rows' mi' ma' lz' _ l' => decide (k = k') && decide (ch = ch') && decide (nt = nt') && decide (mi = mi') && decide (ma = ma') && decide (lz = lz') && decide (rows = rows') && sameL l l'
  def sameL : List Rt → List Rt → Bool
    | [], [] => true
    | a :: l, b :: m => sameM a b && sameL l m
    | [], _ :: _ => false
    | _ :: _, [] => false
end
theorem sameM_eq (a b : Rt) : sameM a b = (decide (a.k = b.k) && decide (a.ch = b.ch) && decide (a.nt = b.nt) && decide (a.mi = b.mi) && decide (a.ma = b.ma) && decide (a.lz = b.lz) && decide (a.rows = b.rows) && sameL a.kids b.kids) := by
  cases a; cases b; rw [sameM]; rfl
mutual
  theorem sameM_refl : ∀ t, sameM t t = true
    | .mk k ch nt _ rows mi ma lz _ l => by rw [sameM, sameL_refl l]; simp
  theorem sameL_refl : ∀ l, sameL l l = true
    | [] => by rw [sameL]
    | t :: l => by rw [sameL, sameM_refl t, sameL_refl l]; rfl
end
mutual
  theorem sameM_symm : ∀ a b, sameM a b = sameM b a
    | .mk k ch nt _ rows mi ma lz _ l, .mk k' ch' nt' _ rows' mi' ma' lz' _ l' => by
      rw [sameM, sameM, sameL_symm l l']
      simp only [eq_comm]
  theorem sameL_symm : ∀ l m, sameL l m = sameL m l
    | [], [] => rfl
    | a :: l, b :: m => by rw [sameL, sameL, sameM_symm a b, sameL_symm l m]
    | [], _ :: _ => by rw [sameL, sameL]
    | _ :: _, [] => by rw [sameL, sameL]
end
theorem sameL_len : ∀ l m, sameL l m = true → l.length = m.length
  | [], [], _ => rfl
  | a :: l, b :: m, h => by
    rw [sameL] at h
    simp only [Bool.and_eq_true] at h
    simp [sameL_len l m h.2]
  | [], _ :: _, h => by rw [sameL] at h; cases h
  | _ :: _, [], h => by rw [sameL] at h; cases h
theorem sameL_at : ∀ (l m : List Rt) (i : Nat) (h : i < l.length) (g : i < m.length), sameL l m = true → sameM l[i] m[i] = true
  | a :: l, b :: m, 0, _, _, e => by
    rw [sameL] at e
    simp only [Bool.and_eq_true] at e
    exact e.1
  | a :: l, b :: m, i + 1, h, g, e => by
    rw [sameL] at e
    simp only [Bool.and_eq_true] at e
    simp only [List.getElem_cons_succ]
    exact sameL_at l m i _ _ e.2
theorem sameL_app : ∀ (l m l2 m2 : List Rt), l.length = m.length → sameL (l ++ l2) (m ++ m2) = (sameL l m && sameL l2 m2)
  | [], [], _, _, _ => by simp [sameL]
  | a :: l, b :: m, l2, m2, h => by
    simp only [List.cons_append, sameL]
    rw [sameL_app l m l2 m2 (by simpa using h), Bool.and_assoc]
  | [], _ :: _, _, _, h => by simp at h
  | _ :: _, [], _, _, h => by simp at h
theorem sameL_succ (l m : List Rt) (k : Nat) (h : k < l.length) (g : k < m.length) (e : sameL (l.take k) (m.take k) = true) (e2 : sameM l[k] m[k] = true) : sameL (l.take (k + 1)) (m.take (k + 1)) = true := by
  rw [List.take_succ_eq_append_getElem h, List.take_succ_eq_append_getElem g, sameL_app _ _ _ _ (by simp; omega), e]
  simp [sameL, e2]
theorem tl_iff (a b : ByteArray) : a.toList = b.toList ↔ a = b := by
  rw [Go.ByteArray.toList_eq, Go.ByteArray.toList_eq]; exact ⟨fun h => by cases a; cases b; simp at h; rw [h], fun h => by rw [h]⟩
theorem neq_rw (a b : Rw) (w : World) : (binOp .neq 36 (.agg #[.string a.1, .string a.2]) (.agg #[.string b.1, .string b.2])).run Tryd.prog w = .ok (.bool (!decide (a = b))) w := by
  obtain ⟨a1, a2⟩ := a
  obtain ⟨b1, b2⟩ := b
  show (binOp .neq 36 (.agg #[.string a1, .string a2]) (.agg #[.string b1, .string b2])).run Tryd.prog w = .ok (.bool (!decide ((a1, a2) = (b1, b2)))) w
  go_simp
  by_cases h1 : a1 = b1 <;> by_cases h2 : a2 = b2 <;> simp [h1, h2, tl_iff]
theorem eqgn_rw (x y : Operand) (a b : Rw) (w : World) : (eqGuard .neq 36 x y (.agg #[.string a.1, .string a.2]) (.agg #[.string b.1, .string b.2])).run Tryd.prog w = .ok () w :=
  run_eqGuard_agg _ _ _ _ _ _ _ (by kernel_rfl)
theorem take_eq_succ {α : Type} (l m : List α) (k : Nat) (h : k < l.length) (g : k < m.length) (e : l.take k = m.take k) (e2 : l[k] = m[k]) : l.take (k + 1) = m.take (k + 1) := by
  rw [List.take_succ_eq_append_getElem h, List.take_succ_eq_append_getElem g, e, e2]
attribute [local go_sem] eqgn_rw
attribute [local go_sem ↓] neq_rw
end Go.Proofs.YtmacpmblodhcpaaDoor
