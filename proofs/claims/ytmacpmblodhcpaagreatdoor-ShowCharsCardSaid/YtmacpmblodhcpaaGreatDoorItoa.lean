/- What the library's table of powers gives: every number is told (strconv.Itoa); the reference's digits. Condition: the table as the program's text lays it; numbers below 1000000. -/
import Derived.Test.YtmacpmblodhcpaaGreatDoorChecked
import Derived.Test.YtmacpmblodhcpaaGreatDoorOwn
import Derived.Test.YtmacpmblodhcpaaGreatDoorLow
import Derived.Test.YtmacpmblodhcpaaGreatDoorLater
import Derived.Test.YtmacpmblodhcpaaGreatDoorRows
import Derived.Test.YtmacpmblodhcpaaGreatDoorLay
import Derived.Lib.LaidTab
import Derived.Lib.AppendIntMem
import Derived.MakeChecks
import Derived.LaidHandle
import Derived.Deep.DrawnRows
namespace Go.Proofs.YtmacpmblodhcpaaGreatDoor
open Go.ChangeShapes Go.WideShapes Go.ChangeAt Go.RowKit
open Go.Lib (decDigits)
attribute [local go_sem ↓] Go.wp_at_zero Go.wp_at_succ
set_option maxRecDepth 100000
set_option linter.unusedVariables false
def itoaS (i : Nat) : ByteArray := ⟨(Go.Lib.decDigits i).toArray⟩
theorem pow_data : (Rows.laid_internal_strconv_uint64pow10 : DataW Unit) = Go.Lib.tabData .u64 Go.Lib.pow10Tab := by kernel_rfl
theorem pow_tab {W : World} (h : laidMetH Tryz.prog [("math/bits.deBruijn32tab", Rows.laid_math_bits_deBruijn32tab), ("math/bits.deBruijn64tab", Rows.laid_math_bits_deBruijn64tab), ("internal/strconv.uint64pow10", Rows.laid_internal_strconv_uint64pow10)] W) : Go.Lib.TabIs Tryz.prog W "internal/strconv.uint64pow10" .u64 Go.Lib.pow10Tab := by
  rw [MakeChecks.laidMetH_plain _ _ _ (by kernel_rfl), pow_data] at h
  obtain ⟨ps, ⟨g0, t0, cs0, f0, p0, q0, hg0, ht0, hv0, hd0, ⟨g1, t1, cs1, f1, p1, q1, hg1, ht1, hv1, hd1, ⟨g2, t2, cs2, f2, p2, q2, hg2, ht2, hv2, hd2, _, _⟩, _⟩, _⟩, _⟩ := h
  have hg : Tryz.prog.globalNamed "internal/strconv.uint64pow10" = some 1 := by kernel_rfl
  have hty : (Tryz.prog.globals[1]?).map (·.type) = some 104 := by kernel_rfl
  obtain rfl := Option.some.inj (hg.symm.trans hg2)
  obtain rfl := Option.some.inj (hty.symm.trans ht2)
  unfold Go.Lib.TabIs
  rw [hv2, ← Go.Lib.cells_of_tab Tryz.underlying104 Tryz.underlying89 (by kernel_rfl) (by kernel_rfl) hd2]
theorem tab_bl {w w' : World} {name : String} {k : IntKind} {zs : List Int} (h : Go.Lib.TabIs Tryz.prog w name k zs) (hb : Below w.heap.size w w') : Go.Lib.TabIs Tryz.prog w' name k zs := by
  unfold Go.Lib.TabIs World.var? at *
  cases hg : Tryz.prog.globalNamed name with
  | none => simp [hg] at h
  | some g =>
    simp only [hg] at h
    simp only [Option.bind_some] at h ⊢
    cases hh : w.heap[g]? with
    | none => rw [hh] at h; exact absurd h (by simp)
    | some o =>
      rw [hb.block g (Array.getElem?_eq_some_iff.1 hh).1, hh]
      rw [hh] at h
      exact h
theorem it_any {w : World} (hT : Go.Lib.TabIs Tryz.prog w "internal/strconv.uint64pow10" .u64 Go.Lib.pow10Tab) (i : Nat) (h : i < 1000000) (W : World) (hb : Below w.heap.size w W) : Calls Tryz.prog 42 #[.int .i64 i] W fun e w' => e = .returned (.string (itoaS i)) ∧ Below W.heap.size W w' := by
  refine (Any.strconv_Itoa itoaM (i : Int) (by omega) (by omega) W (tab_bl hT hb)).mono ?_
  rintro e w' ⟨rfl, k, os, rfl⟩
  refine ⟨?_, Go.Lib.below_grow _ _ (Nat.le_refl _) k os⟩
  unfold itoaS Go.Lib.itoa
  rw [if_neg (by omega), Int.toNat_natCast]
/-- What of the digits stands ahead of the last one. -/
def preD (u : Nat) : List UInt8 := if u < 10 then [] else decDigits (u / 10)
theorem dec_pre (u : Nat) : decDigits u = preD u ++ [UInt8.ofNat (48 + u % 10)] := by
  unfold preD
  rw [decDigits]
  split
  · rw [show u % 10 = u by omega]; rfl
  · rfl
def valD (l : List UInt8) : Nat := l.foldl (fun a c => a * 10 + (c.toNat - 48)) 0
theorem val_snoc (l : List UInt8) (c : UInt8) : valD (l ++ [c]) = valD l * 10 + (c.toNat - 48) := by unfold valD; rw [List.foldl_append]; rfl
theorem d_nat (k : Nat) (h : k < 10) : (UInt8.ofNat (48 + k)).toNat = 48 + k := by rw [UInt8.toNat_ofNat']; omega
theorem val_dec (u : Nat) : valD (decDigits u) = u := by
  induction u using Nat.strongRecOn with
  | _ u ih =>
    rw [dec_pre, val_snoc, d_nat _ (by omega)]
    unfold preD
    split
    · show 0 * 10 + _ = _; omega
    · rw [ih (u / 10) (by omega)]; omega
theorem dec_chars (u : Nat) : ∀ c ∈ decDigits u, 48 ≤ c.toNat ∧ c.toNat ≤ 57 := by
  induction u using Nat.strongRecOn with
  | _ u ih =>
    intro c hc
    rw [dec_pre] at hc
    rcases List.mem_append.1 hc with hc | hc
    · unfold preD at hc
      split at hc
      · cases hc
      · exact ih (u / 10) (by omega) c hc
    · have : c = UInt8.ofNat (48 + u % 10) := by simpa using hc
      rw [this, d_nat _ (by omega)]; omega
theorem dec_len (u : Nat) : (decDigits u).length ≤ u + 1 := by
  induction u using Nat.strongRecOn with
  | _ u ih =>
    rw [dec_pre, List.length_append]
    unfold preD
    split
    · simp
    · have := ih (u / 10) (by omega)
      simp; omega
theorem dec_len2 (u : Nat) (h : u < 1000000) : (decDigits u).length ≤ 6 := by
  have step : ∀ (k u : Nat), u < 10 ^ (k + 1) → (decDigits u).length ≤ k + 1 := by
    intro k
    induction k with
    | zero => intro u hu; rw [dec_pre]; unfold preD; rw [if_pos (by omega)]; simp
    | succ k ih =>
      intro u hu
      rw [dec_pre, List.length_append]
      unfold preD
      split
      · simp
      · have := ih (u / 10) (by rw [Nat.pow_succ] at hu; omega)
        simp; omega
  exact step 5 u (by omega)
theorem dec_inj {i j : Nat} (h : decDigits i = decDigits j) : i = j := by have := congrArg valD h; rwa [val_dec, val_dec] at this
theorem itoa_size (u : Nat) (h : u < 1000000) : (itoaS u).size ≤ 6 := dec_len2 u h
theorem itoa_inj {i j : Nat} (h : itoaS i = itoaS j) : i = j := by
  have := congrArg (fun x : ByteArray => x.data.toList) h
  simp only [itoaS] at this
  exact dec_inj (by simpa using this)
end Go.Proofs.YtmacpmblodhcpaaGreatDoor
