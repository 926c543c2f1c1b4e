/- What a law's call of Read leaves; lists of two written out. No condition. -/
import Derived.Test.YtmacpmblodhcpaaGreatDoorZbA
namespace Go.Proofs.YtmacpmblodhcpaaGreatDoor
open Go.ChangeShapes Go.WideShapes Go.ChangeAt Go.RowKit
open SetM
attribute [local go_sem ↓] Go.wp_at_zero Go.wp_at_succ
set_option maxRecDepth 100000
set_option linter.unusedVariables false
/-- The number that Read answers beside a tree. -/
def rdN : Res → Int
  | .no => 0
  | .err n => n
  | .ok _ _ => 0
/-- A tree's eight fields, whatever they are. -/
def RdwPost (n : Int) (w : World) : Ending → World → Prop := fun e w' => ∃ (k : Int) (ch : ByteArray) (nt : Bool) (rA : Option Addr) (rl rc : Nat) (mi ma : Int) (lz : Bool) (kA : Option Addr) (kl kc : Nat), e = .returned (.tuple #[.agg #[.int .i64 k, .string ch, .bool nt, .slice rA rl rc, .int .i64 mi, .int .i64 ma, .bool lz, .slice kA kl kc], .int .i64 n]) ∧ Below w.heap.size w w'
theorem rx_vv {w : World} {t : Rt} (h : RxAt w t) : ∃ rA rc kA kc, t.rv = .slice rA t.rows.length rc ∧ t.kv = .slice kA t.kids.length kc ∧ t.v = .agg #[.int .i64 t.k, .string t.ch, .bool t.nt, .slice rA t.rows.length rc, .int .i64 t.mi, .int .i64 t.ma, .bool t.lz, .slice kA t.kids.length kc] := by
  obtain ⟨A, c, hkv⟩ := ksat_len h.ks
  obtain ⟨RA, rc, hrv⟩ := rwat_len h.rows
  exact ⟨RA, rc, A, c, hrv, hkv, by unfold Rt.v Rt.cs; rw [hkv, hrv]⟩
theorem read_w (s : ByteArray) (hz : s.size ≤ 1000000) (n : Int) (hn : rdN (readP s.data.toList) = n) (w : World) : Calls Tryz.prog 11 #[.string s] w (RdwPost n w) := by
  refine (read_any s hz w _ rfl).mono ?_
  intro e w' h
  rcases readP_cases s.data.toList with ⟨m, hm, _⟩ | ⟨x, hx⟩
  · rw [hm] at h hn
    obtain ⟨rfl, hb⟩ := h
    obtain rfl : m = n := hn
    exact ⟨0, ⟨#[]⟩, false, none, 0, 0, 0, 0, false, none, 0, 0, rfl, hb⟩
  · rw [hx] at h hn
    obtain ⟨t, rfl, hb, hr, _⟩ := h
    obtain rfl : 0 = n := hn
    obtain ⟨rA, rc, kA, kc, _, _, hv⟩ := rx_vv hr
    exact ⟨_, _, _, _, _, _, _, _, _, _, _, _, by rw [hv], hb⟩
theorem rdN_ok {l : List UInt8} (h : rdN (readP l) = 0) : ∃ x, readP l = .ok x [] := by
  rcases readP_cases l with ⟨m, hm, hn⟩ | hx
  · rw [hm] at h
    have h : m = 0 := h
    omega
  · exact hx
def CxAt (w : World) (b : Nat) (t : Rt) : Prop := ∀ j u, t.cs[j]? = some u → w.cell? ⟨b, j, none⟩ = some u
theorem cx_below {w w' : World} {b : Nat} {t : Rt} (h : CxAt w b t) (hb : Below w.heap.size w w') : CxAt w' b t := fun j u hu => cell_later hb (h j u hu)
theorem cx_new (w : World) (t : Rt) {rA kA : Option Addr} {rc kc : Nat} (hr : t.rv = .slice rA t.rows.length rc) (hk : t.kv = .slice kA t.kids.length kc) : CxAt (w.alloc (.cells #[.int .i64 t.k, .string t.ch, .bool t.nt, .slice rA t.rows.length rc, .int .i64 t.mi, .int .i64 t.ma, .bool t.lz, .slice kA t.kids.length kc] 25)) w.heap.size t := by
  intro j u hu
  unfold Rt.cs at hu
  rw [hr, hk] at hu
  exact ks_alloc (W := w) (T := 25) (cs := [.int .i64 t.k, .string t.ch, .bool t.nt, .slice rA t.rows.length rc, .int .i64 t.mi, .int .i64 t.ma, .bool t.lz, .slice kA t.kids.length kc]) rfl j u hu
theorem cx_8 {w : World} {b : Nat} {t : Rt} (h : CxAt w b t) {rA kA : Option Addr} {rc kc : Nat} (hr : t.rv = .slice rA t.rows.length rc) (hk : t.kv = .slice kA t.kids.length kc) : w.cell? ⟨b, 0, none⟩ = some (.int .i64 t.k) ∧ w.cell? ⟨b, 1, none⟩ = some (.string t.ch) ∧ w.cell? ⟨b, 2, none⟩ = some (.bool t.nt) ∧ w.cell? ⟨b, 3, none⟩ = some (.slice rA t.rows.length rc) ∧ w.cell? ⟨b, 4, none⟩ = some (.int .i64 t.mi) ∧ w.cell? ⟨b, 5, none⟩ = some (.int .i64 t.ma) ∧ w.cell? ⟨b, 6, none⟩ = some (.bool t.lz) ∧ w.cell? ⟨b, 7, none⟩ = some (.slice kA t.kids.length kc) := by
  refine ⟨h 0 _ rfl, h 1 _ rfl, h 2 _ rfl, ?_, h 4 _ rfl, h 5 _ rfl, h 6 _ rfl, ?_⟩
  · rw [← hr]; exact h 3 _ rfl
  · rw [← hk]; exact h 7 _ rfl
theorem ks_two {w W : World} {x y : Rt} {arr : Array Value} (ha : arr.toList = x.cs ++ y.cs) (hx : RxAt w x) (hy : RxAt w y) (hb : Below (w.alloc (.cells arr 25)).heap.size (w.alloc (.cells arr 25)) W) : KsAt W (.slice (some ⟨w.heap.size, 0, none⟩) 2 2) [x, y] ∧ ∀ i (hi : i < [x, y].length), RxAt W [x, y][i] := by
  have hb2 := bl_trans (bl_alloc (bl_refl w) (.cells arr 25)) hb
  refine ⟨.inr ⟨⟨w.heap.size, 0, none⟩, 2, rfl, Nat.le_refl _, by decide, fun i hi j u hu => ?_⟩, fun i hi => ?_⟩
  · refine cell_later hb ?_
    rw [addr_add]
    have hz : (0 : Nat) + (i * 8 + j) = i * 8 + j := Nat.zero_add _
    show (w.alloc (.cells arr 25)).cell? ⟨w.heap.size, 0 + (i * 8 + j), none⟩ = some u
    rw [hz]
    have := cells_lit w arr 25 (i * 8 + j) u (by
      rw [ha]
      have := flatX_at [x, y] i hi j u hu
      simpa [flatX] using this)
    rw [addr_add, Nat.zero_add] at this
    exact this
  · match i, hi with
    | 0, _ => exact rx_below hx hb2
    | 1, _ => exact rx_below hy hb2
theorem seq_lit2 {w W : World} {n : Nat} {x y : Rt} {arr : Array Value} (hb : Below (w.alloc (.cells arr 25)).heap.size (w.alloc (.cells arr 25)) W) (hn : n = w.heap.size) (ha : arr.toList = x.cs ++ y.cs) (hx : RxAt w x) (hy : RxAt w y) (hz : sM x + sM y ≤ 100000) :
    Calls Tryz.prog 15 #[.slice (some ⟨n, 0, none⟩) 2 2] W (SqfPost (seqX (flK 0 [x, y])) W) := by
  subst hn
  obtain ⟨h1, h2⟩ := ks_two ha hx hy hb
  exact seqf_any _ _ _ h1 h2 (by simp only [sL]; omega)
theorem alt_lit2 {w W : World} {n : Nat} {x y : Rt} {arr : Array Value} (hb : Below (w.alloc (.cells arr 25)).heap.size (w.alloc (.cells arr 25)) W) (hn : n = w.heap.size) (ha : arr.toList = x.cs ++ y.cs) (hx : RxAt w x) (hy : RxAt w y) (hz : sM x + sM y ≤ 100000) :
    Calls Tryz.prog 36 #[.slice (some ⟨n, 0, none⟩) 2 2] W (SqfPost (altX (flK 1 [x, y])) W) := by
  subst hn
  obtain ⟨h1, h2⟩ := ks_two ha hx hy hb
  exact altf_any _ _ _ h1 h2 (by simp only [sL]; omega)
end Go.Proofs.YtmacpmblodhcpaaGreatDoor
