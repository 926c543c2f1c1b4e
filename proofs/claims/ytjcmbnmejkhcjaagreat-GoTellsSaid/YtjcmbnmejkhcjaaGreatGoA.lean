/- Contracts: where a selection goes; selections that go (motion.Go). Condition: they lie in the text, at most 20 of them. -/
import Derived.Test.YtjcmbnmejkhcjaaGreatMotR
import Derived.Test.YtjcmbnmejkhcjaaGreatSelEnd
namespace Go.Proofs.YtjcmbnmejkhcjaaGreat
open Go.ChangeShapes Go.WideShapes Go.ChangeAt Go.RowKit
open SpanM SelM
attribute [local go_sem ↓] Go.wp_at_zero Go.wp_at_succ
attribute [local go_sem] fld_sp0 fld_sp1
set_option maxRecDepth 100000
set_option linter.unusedVariables false
/-- Where a selection goes that is not extended. -/
def lvM (L : List UInt8) (s : Sp) (way : Int) : Int := if s.1 ≠ s.2 ∧ way = 1 then (ky s).1 else if s.1 ≠ s.2 ∧ way = 2 then (ky s).2 else ((stepM L s.2.toNat way : Nat) : Int)
/-- A selection that goes. -/
def goM (L : List UInt8) (way : Int) (ext : Bool) (s : Sp) : Sp := if ext = true then (s.1, ((stepM L s.2.toNat way : Nat) : Int)) else (lvM L s way, lvM L s way)
theorem step_i {w : World} {r : Nat} {x : ByteArray} (h : LnAt w r x) (hs : x.size ≤ 100000) (k : Int) (hk0 : 0 ≤ k) (hk : k ≤ x.size) (way : Int) (h1 : 1 ≤ way) (h10 : way ≤ 10) (u : Nat) (hu : stepM x.data.toList k.toNat way = u) :
    Calls Tryz.prog 17 #[.agg #[.pointer (some ⟨r, 0, none⟩)], .int .i64 k, .int .i64 way] w fun e w' => e = .returned (.int .i64 (u : Int)) ∧ Below w.heap.size w w' := by
  have := step_m h hs k.toNat (by omega) way h1 h10
  rw [hu, show ((k.toNat : Nat) : Int) = k by omega] at this
  exact this
set_option maxHeartbeats 4000000 in
theorem leave_any {w : World} {r : Nat} {x : ByteArray} (h : LnAt w r x) (hs : x.size ≤ 100000) (s1 s2 : Int) (hk0 : 0 ≤ s2) (hk : s2 ≤ x.size) (way : Int) (h1 : 1 ≤ way) (h10 : way ≤ 10) (u : Int) (hu : lvM x.data.toList (s1, s2) way = u) :
    Calls Tryz.prog 18 #[.agg #[.pointer (some ⟨r, 0, none⟩)], .agg #[.int .i64 s1, .int .i64 s2], .int .i64 way] w fun e w' => e = .returned (.int .i64 u) ∧ Below w.heap.size w w' := by
  have c0 := ln_c0 w r
  have hb0 := ln_b0 w r
  have HS := hide (fun W (hb : Below w.heap.size w W) => step_i (h.bl hb) hs s2 hk0 hk way h1 h10 _ rfl)
  obtain ⟨⟨k1, k2⟩, hkk⟩ : ∃ k, ky (s1, s2) = k := ⟨_, rfl⟩
  have HA : Hid (∀ W, Calls Tryz.prog 26 #[.agg #[.int .i64 s1, .int .i64 s2]] W fun e w' => e = .returned (.agg #[.int .i64 k1, .int .i64 k2]) ∧ Below W.heap.size W w') := hide (fun W => span_b s1 s2 (k1, k2) hkk W)
  unfold lvM at hu
  rw [hkk] at hu
  dsimp only at hu
  generalize stepM x.data.toList s2.toNat way = v at *
  by_cases he : s1 = s2
  · subst he
    rw [if_neg (by simp), if_neg (by simp)] at hu
    have HU := hide hu
    clear hu hkk
    go_enter Tryz.func18, Tryz.ntmps18
    go_wp2_with fail
    refine (HS.out _ (bl_alloc (bl_alloc (bl_refl w) _) _)).mono ?_
    rintro e w5 ⟨rfl, hb5⟩
    go_wp2
    go_ret
    exact ⟨ret_int HU.out, bl_trans (bl_alloc (bl_alloc (bl_refl w) _) _) hb5⟩
  have d0 : (s1 != s2) = true := by simp [he]
  by_cases hw1 : way = 1
  · subst hw1
    rw [if_pos ⟨he, rfl⟩] at hu
    have HU := hide hu
    clear hu hkk he
    go_enter Tryz.func18, Tryz.ntmps18
    go_wp2_with fail
    refine (HA.out _).mono ?_
    rintro e w5 ⟨rfl, hb5⟩
    go_wp2
    go_ret
    exact ⟨ret_int HU.out, bl_trans (bl_alloc (bl_alloc (bl_refl w) _) _) hb5⟩
  by_cases hw2 : way = 2
  · subst hw2
    rw [if_neg (by simp), if_pos ⟨he, rfl⟩] at hu
    have HU := hide hu
    clear hu hkk he hw1
    go_enter Tryz.func18, Tryz.ntmps18
    go_wp2_with fail
    refine (HA.out _).mono ?_
    rintro e w5 ⟨rfl, hb5⟩
    go_wp2
    go_ret
    exact ⟨ret_int HU.out, bl_trans (bl_alloc (bl_alloc (bl_refl w) _) _) hb5⟩
  have d1 : (way == 1) = false := beq_eq_false_iff_ne.2 hw1
  have d2 : (way == 2) = false := beq_eq_false_iff_ne.2 hw2
  rw [if_neg (fun h => hw1 h.2), if_neg (fun h => hw2 h.2)] at hu
  have HU := hide hu
  clear hu hkk he hw1 hw2
  go_enter Tryz.func18, Tryz.ntmps18
  go_wp2_with fail
  refine (HS.out _ (bl_alloc (bl_alloc (bl_refl w) _) _)).mono ?_
  rintro e w5 ⟨rfl, hb5⟩
  go_wp2
  go_ret
  exact ⟨ret_int HU.out, bl_trans (bl_alloc (bl_alloc (bl_refl w) _) _) hb5⟩
end Go.Proofs.YtjcmbnmejkhcjaaGreat
