/- Ropes at the laws: what is refused; pieces compared. -/
import Derived.Test.YtidfpnedbcaicaaRopW
import Derived.LaidEqlPtr
namespace Go.Proofs.Ytidfpnedbcaicaa
open Go.ChangeShapes Go.WideShapes Go.ChangeAt Go.RowKit
attribute [local go_sem ↓] Go.wp_at_zero Go.wp_at_succ
set_option maxRecDepth 100000
theorem count_no {w : World} {r d : Nat} {t : T} (hc : RpC w r d t) (ht : t.At w) (k : Int) (hx : k < 0 ∨ (t.text.length : Int) < k) :
    Calls Try.prog 26 #[.pointer (some ⟨r, 0, none⟩), .int .i64 k] w fun e w' => e = .returned (.tuple #[.agg #[.int .i64 0, .int .i64 0, .int .i64 0, .int .i64 0], .int .i64 3]) ∧ Below w.heap.size w w' := by
  have hm : mayR 0 k t.text.length = 3 := by unfold mayR; rw [if_pos (by omega)]
  have HM := hide (fun W (hb : Below w.heap.size w W) => (hm ▸ may_r (rp_bl hc hb) (ht.later t hb) 0 k : Calls Try.prog 41 #[.pointer (some ⟨r, 0, none⟩), .int .i64 0, .int .i64 k] W fun e w' => e = .returned (.int .i64 3) ∧ W = w'))
  clear hc ht hx hm
  go_enter Try.func26, Try.ntmps26
  go_wp2_with fail
  refine (HM.out _ (bl_alloc (bl_refl _) _)).mono ?_
  rintro e w1 ⟨rfl, rfl⟩
  go_wp2
  refine bodyPost_ret (v := .tuple #[.agg #[.int .i64 0, .int .i64 0, .int .i64 0, .int .i64 0], .int .i64 3]) (by simp [results, Try.results26, go_sem]) rfl ⟨rfl, ?_⟩
  first
  | exact bl_alloc (bl_refl _) _
  | exact bl_set (bl_alloc (bl_refl _) _) (Nat.le_refl _) _
  | exact (by repeat (first | exact bl_refl _ | assumption | refine bl_alloc ?_ _ | refine bl_drewN ?_ _ | refine bl_drew ?_ | refine bl_trans ?_ (by assumption)))
theorem join_none (r : Nat) (w : World) : Calls Try.prog 31 #[.pointer (some ⟨r, 0, none⟩), .pointer none] w fun e w' => e = .returned (.int .i64 1) ∧ w = w' := by
  go_enter Try.func31, Try.ntmps31
  go_wp2
  go_ret
  exact ⟨rfl, rfl⟩
theorem join_self (r : Nat) (w : World) : Calls Try.prog 31 #[.pointer (some ⟨r, 0, none⟩), .pointer (some ⟨r, 0, none⟩)] w fun e w' => e = .returned (.int .i64 2) ∧ w = w' := by
  obtain ⟨i0, hi0, _, _, _⟩ := info_parts info_rope
  have hpe := run_eql_ptr_same (w := w) ⟨r, 0, none⟩ Try.underlying28 hi0
  go_enter Try.func31, Try.ntmps31
  go_wp2
  go_ret
  exact ⟨rfl, rfl⟩
theorem join_no {w : World} {r d o d2 : Nat} {t u : T} (hc : RpC w r d t) (ht : t.At w) (ho : RpC w o d2 u) (hu : u.At w) (hro : r ≠ o) (hlen : 65536 < t.text.length + u.text.length) (h1 : t.text.length ≤ 1000000) (h2 : u.text.length ≤ 1000000) :
    Calls Try.prog 31 #[.pointer (some ⟨r, 0, none⟩), .pointer (some ⟨o, 0, none⟩)] w fun e w' => e = .returned (.int .i64 4) ∧ w = w' := by
  have HL := hide (len_r hc ht)
  have HL2 := hide (len_r ho hu)
  obtain ⟨n, hn⟩ : ∃ n, t.text.length = n := ⟨_, rfl⟩
  obtain ⟨m, hm⟩ : ∃ m, u.text.length = m := ⟨_, rfl⟩
  rw [hn] at HL hlen h1
  rw [hm] at HL2 hlen h2
  have g1 : decide ((65536 : Int) < (n : Int) + (m : Int)) = true := decide_eq_true (by omega)
  obtain ⟨i0, hi0, _, hz1, _⟩ := info_parts info_rope
  have hpe := run_eql_ptr_other w (a := ⟨o, 0, none⟩) (b := ⟨r, 0, none⟩) Try.underlying28 hi0 (by omega) (by intro e; injection e with e; exact hro e.symm) ho hc
  clear hn hm hc ho ht hu
  go_enter Try.func31, Try.ntmps31
  go_wp2_with fail
  refine HL.out.mono ?_
  rintro e w1 ⟨rfl, rfl⟩
  go_wp2_with fail
  refine HL2.out.mono ?_
  rintro e w1 ⟨rfl, rfl⟩
  go_wp2
  go_ret
  exact ⟨rfl, rfl⟩
theorem neq_pd (x : ByteArray) (p k : Int) (w : World) : (binOp .neq 60 (.agg #[.string x, .int .u32 p, .int .i64 k]) (.agg #[.string x, .int .u32 p, .int .i64 k])).run Try.prog w = .ok (.bool false) w := by
  go_simp
theorem eqg_pd (a b : Operand) (x : ByteArray) (p k : Int) (w : World) : (eqGuard .neq 60 a b (.agg #[.string x, .int .u32 p, .int .i64 k]) (.agg #[.string x, .int .u32 p, .int .i64 k])).run Try.prog w = .ok () w :=
  run_eqGuard_agg _ _ _ _ _ _ _ (by kernel_rfl)
end Go.Proofs.Ytidfpnedbcaicaa
