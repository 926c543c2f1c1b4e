/- Ropes at the laws: each deed at any places, in range or not. -/
import Derived.Test.YtjcmbnmejkhcjaaRopY
import Derived.Test.YtjcmbnmejkhcjaaRopC
namespace Go.Proofs.Ytjcmbnmejkhcjaa
open Go.ChangeShapes Go.WideShapes Go.ChangeAt Go.RowKit
attribute [local go_sem ↓] Go.wp_at_zero Go.wp_at_succ
set_option maxRecDepth 100000
def insT (x s : ByteArray) (a : Int) : ByteArray := if mayR a a x.size = 0 then x.extract 0 a.toNat ++ s ++ x.extract a.toNat x.size else x
def delT (x : ByteArray) (a b : Int) : ByteArray := if mayR a b x.size = 0 then x.extract 0 a.toNat ++ x.extract b.toNat x.size else x
def slcT (x : ByteArray) (a b : Int) : ByteArray := if mayR a b x.size = 0 then x.extract a.toNat b.toNat else ⟨#[]⟩
theorem mayR_cases (a b n : Int) : (mayR a b n = 0 ∧ 0 ≤ a ∧ a ≤ b ∧ b ≤ n) ∨ (mayR a b n = 3 ∧ (a < 0 ∨ b < a ∨ n < b)) := by
  unfold mayR
  by_cases h : a < 0 ∨ b < a ∨ n < b
  · rw [if_pos h]; exact .inr ⟨rfl, h⟩
  · rw [if_neg h]; exact .inl ⟨rfl, by omega⟩
theorem ins_size (x s : ByteArray) (a : Int) : (insT x s a).size ≤ x.size + s.size := by
  unfold insT
  split
  · simp only [ByteArray.size_append, ByteArray.size_extract]; omega
  · omega
theorem del_size (x : ByteArray) (a b : Int) : (delT x a b).size ≤ x.size := by
  unfold delT
  rcases mayR_cases a b x.size with ⟨h, h2⟩ | ⟨h, h2⟩
  · rw [if_pos h]; simp only [ByteArray.size_append, ByteArray.size_extract]; omega
  · rw [if_neg (by rw [h]; decide)]; omega
def InsPost (w0 : World) (D : List (Nat × Nat)) (r d : Nat) (rs : List Rp) (x : ByteArray) (m : Int) (e : Ending) (w' : World) : Prop := ∃ t, e = .returned (.int .i64 m) ∧ Tx t x ∧ Rst w0 w' D ((r, d, t) :: rs)
theorem rst_slc {w0 w : World} {D : List (Nat × Nat)} {rs : List Rp} (h : Rst w0 w D rs) {r d : Nat} {t : T} (hq : (r, d, t) ∈ rs) {x : ByteArray} (hx : Tx t x) (a b : Int) (hs : x.size ≤ 1000000) :
    Calls Try.prog 76 #[.pointer (some ⟨r, 0, none⟩), .int .i64 a, .int .i64 b] w fun e w' => e = .returned (.tuple #[.string (slcT x a b), .int .i64 (mayR a b x.size)]) ∧ Below w.heap.size w w' := by
  have hlen := hx.len
  have hc := h.rp _ hq
  have hat := (h.at' hq).1
  unfold slcT
  rcases mayR_cases a b x.size with ⟨hm, h1, h2, h3⟩ | ⟨hm, h1⟩
  · rw [if_pos hm, hm]
    obtain ⟨p, rfl⟩ : ∃ p : Nat, a = p := ⟨a.toNat, by omega⟩
    obtain ⟨q, rfl⟩ : ∃ q : Nat, b = q := ⟨b.toNat, by omega⟩
    have := slice_r hc hat (by rw [hlen]; exact hs) p q (by omega) (by rw [hlen]; omega)
    rw [show strOf (cutL t.text p q) = x.extract p q from str_ext (by rw [strOf_list, hx, exs_cut _ _ _ (by omega)])] at this
    exact this
  · rw [if_neg (by rw [hm]; decide), hm]
    refine (slice_bad hc hat a b (by rw [hlen]; exact hm)).mono ?_
    rintro e w' ⟨rfl, rfl⟩
    exact ⟨rfl, bl_refl _⟩
/-- What Count answers. -/
def CntIs (x : ByteArray) (a : Int) (v0 v1 v2 v3 : Int) : Prop := (mayR 0 a x.size = 0 → talOf (x.extract 0 a.toNat).data.toList = .agg #[.int .i64 v0, .int .i64 v1, .int .i64 v2, .int .i64 v3]) ∧ (mayR 0 a x.size ≠ 0 → v0 = 0 ∧ v1 = 0 ∧ v2 = 0 ∧ v3 = 0)
theorem cntIs_same {x : ByteArray} {a : Int} {v0 v1 v2 v3 u0 u1 u2 u3 : Int} (h : CntIs x a v0 v1 v2 v3) (g : CntIs x a u0 u1 u2 u3) : v0 = u0 ∧ v1 = u1 ∧ v2 = u2 ∧ v3 = u3 := by
  by_cases hm : mayR 0 a x.size = 0
  · have e := (h.1 hm).symm.trans (g.1 hm)
    injection e with e
    have e := congrArg Array.toList e
    simp at e
    exact e
  · obtain ⟨rfl, rfl, rfl, rfl⟩ := h.2 hm
    obtain ⟨rfl, rfl, rfl, rfl⟩ := g.2 hm
    exact ⟨rfl, rfl, rfl, rfl⟩
theorem rst_cnt {w0 w : World} {D : List (Nat × Nat)} {rs : List Rp} (h : Rst w0 w D rs) {r d : Nat} {t : T} (hq : (r, d, t) ∈ rs) {x : ByteArray} (hx : Tx t x) (a : Int) (hs : x.size ≤ 1000000) :
    Calls Try.prog 34 #[.pointer (some ⟨r, 0, none⟩), .int .i64 a] w fun e w' => ∃ v0 v1 v2 v3 : Int, CntIs x a v0 v1 v2 v3 ∧ e = .returned (.tuple #[.agg #[.int .i64 v0, .int .i64 v1, .int .i64 v2, .int .i64 v3], .int .i64 (mayR 0 a x.size)]) ∧ Below w.heap.size w w' := by
  have hlen := hx.len
  have hc := h.rp _ hq
  have hat := (h.at' hq).1
  rcases mayR_cases 0 a x.size with ⟨hm, h1, h2, h3⟩ | ⟨hm, h1⟩
  · obtain ⟨p, rfl⟩ : ∃ p : Nat, a = p := ⟨a.toNat, by omega⟩
    refine (count_r hc hat p (by rw [hlen]; omega) (by rw [hlen]; exact hs)).mono ?_
    rintro e w' ⟨v0, v1, v2, v3, hv, rfl, hb⟩
    rw [hv, hm]
    refine ⟨v0, v1, v2, v3, ⟨fun _ => ?_, fun hn => absurd hm hn⟩, rfl, hb⟩
    rw [← hv, hx, ext_take]
    rfl
  · refine (count_no hc hat a (by rw [hlen]; omega)).mono ?_
    rintro e w' ⟨rfl, hb⟩
    rw [hm]
    exact ⟨0, 0, 0, 0, ⟨fun h0 => absurd h0 (by rw [hm]; decide), fun _ => ⟨rfl, rfl, rfl, rfl⟩⟩, rfl, hb⟩
end Go.Proofs.Ytjcmbnmejkhcjaa
