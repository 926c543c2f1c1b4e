/- Contracts: a slice of stretches cloned; two held against one another. No condition but short slices. -/
import Derived.Test.YtjmoeahlbgdkbaaSpanC
import Derived.Lib.LazyBuf
namespace Go.Proofs.Ytjmoeahlbgdkbaa
open Go.ChangeShapes Go.WideShapes Go.ChangeAt Go.RowKit
open SpanM
attribute [local go_sem ↓] Go.wp_at_zero Go.wp_at_succ
set_option maxRecDepth 100000 in
set_option maxHeartbeats 1000000 in
theorem clone_any (v : Value) (l : List Sp) (w : World) (h : SpAt w v l) (hl : l.length ≤ 1000) :
    Calls Try.prog 83 #[v] w fun e w' => ∃ v', e = .returned v' ∧ Below w.heap.size w w' ∧ w'.ownsRow w.heap.size 41 2 v' l.length (flat l) := by
  obtain ⟨i0, hi0, hz0', hz1, hz2⟩ := info_parts info_sp
  have hsn := fun (W : World) (a : Option Addr) (n c : Nat) => Lib.run_eql_slice_nil (P := Try.prog) W 103 41 a n c 0 0 Try.underlying103
  rcases h with ⟨rfl, rfl⟩ | ⟨x, c, rfl, h1, h2, h3⟩
  · go_enter Try.func83, Try.ntmps83
    go_wp2
    go_ret
    exact ⟨_, rfl, bl_refl w, ⟨rfl, .inl ⟨rfl, rfl⟩⟩⟩
  · have hm0 := World.ownsRow_made (base := w.heap.size) (e := 41) (size := 2) w #[] 0 (Nat.le_refl _) (by simp [maxLen]) (by simp)
    have hnews : ∀ j u, (flat l)[j]? = some u → (w.alloc (.cells #[] 41)).cell? (x.add j) = some u := by
      intro j u hu
      have hj : j < l.length * 2 := by
        have := (List.getElem?_eq_some_iff.1 hu).1
        rwa [flat_len] at this
      have hq : j / 2 < l.length := by omega
      have hf := flat_at l (j / 2) hq
      have hc := h3 (j / 2) hq
      rcases Nat.mod_two_eq_zero_or_one j with hh | hh
      · have ht : j / 2 * 2 = j := by omega
        rw [ht] at hf hc
        rw [hu] at hf
        rw [Option.some.inj hf.1]
        exact cell_later (bl_alloc (bl_refl w) _) hc.1
      · have ht : j / 2 * 2 + 1 = j := by omega
        rw [ht] at hf hc
        rw [hu] at hf
        rw [Option.some.inj hf.2]
        exact cell_later (bl_alloc (bl_refl w) _) hc.2
    have hbb : (l.length) * 16 ≤ 140737488355328 := by omega
    clear h3
    go_enter Try.func83, Try.ntmps83
    go_wp2_with (at_builtin; (refine wpList_append_own _ rfl _ _ 103 rfl w.heap.size 41 i0 (.agg #[.int .i64 0, .int .i64 0]) 2 16 Try.underlying103 hi0 hz0' hz1 hz2 rfl (by decide) _ 0 [] rfl hm0 x l.length c (flat l) rfl (flat_len l) hnews (flat_one l) (by unfold maxLen; omega) (by omega) (by simp) ?_); intro v' w4 hv4 hg4 hat)
    go_ret
    rw [Nat.zero_add, List.nil_append] at hv4
    exact ⟨_, rfl, bl_own (bl_alloc (bl_refl w) _) hm0 hg4 (Nat.le_refl _), hv4⟩
theorem neq_sp (a b : Sp) (w : World) : (binOp .neq 41 (.agg #[.int .i64 a.1, .int .i64 a.2]) (.agg #[.int .i64 b.1, .int .i64 b.2])).run Try.prog w = .ok (.bool (!decide (a = b))) w := by
  obtain ⟨a1, a2⟩ := a
  obtain ⟨b1, b2⟩ := b
  show (binOp .neq 41 (.agg #[.int .i64 a1, .int .i64 a2]) (.agg #[.int .i64 b1, .int .i64 b2])).run Try.prog w = .ok (.bool (!decide ((a1, a2) = (b1, b2)))) w
  go_simp
  by_cases h1 : a1 = b1 <;> by_cases h2 : a2 = b2 <;> simp [h1, h2]
theorem eql_sp (a b : Sp) (w : World) : (binOp .eql 41 (.agg #[.int .i64 a.1, .int .i64 a.2]) (.agg #[.int .i64 b.1, .int .i64 b.2])).run Try.prog w = .ok (.bool (decide (a = b))) w := by
  obtain ⟨a1, a2⟩ := a
  obtain ⟨b1, b2⟩ := b
  show (binOp .eql 41 (.agg #[.int .i64 a1, .int .i64 a2]) (.agg #[.int .i64 b1, .int .i64 b2])).run Try.prog w = .ok (.bool (decide ((a1, a2) = (b1, b2)))) w
  go_simp
  by_cases h1 : a1 = b1 <;> by_cases h2 : a2 = b2 <;> simp [h1, h2]
theorem eqgn_sp (x y : Operand) (a b : Sp) (w : World) : (eqGuard .neq 41 x y (.agg #[.int .i64 a.1, .int .i64 a.2]) (.agg #[.int .i64 b.1, .int .i64 b.2])).run Try.prog w = .ok () w :=
  run_eqGuard_agg _ _ _ _ _ _ _ (by kernel_rfl)
theorem eqge_sp (x y : Operand) (a b : Sp) (w : World) : (eqGuard .eql 41 x y (.agg #[.int .i64 a.1, .int .i64 a.2]) (.agg #[.int .i64 b.1, .int .i64 b.2])).run Try.prog w = .ok () w :=
  run_eqGuard_agg _ _ _ _ _ _ _ (by kernel_rfl)
theorem take_eq_succ {α : Type} (l m : List α) (k : Nat) (h : k < l.length) (g : k < m.length) (e : l.take k = m.take k) (e2 : l[k] = m[k]) : l.take (k + 1) = m.take (k + 1) := by
  rw [List.take_succ_eq_append_getElem h, List.take_succ_eq_append_getElem g, e, e2]
attribute [local go_sem] eqgn_sp eqge_sp
attribute [local go_sem ↓] neq_sp eql_sp
end Go.Proofs.Ytjmoeahlbgdkbaa
