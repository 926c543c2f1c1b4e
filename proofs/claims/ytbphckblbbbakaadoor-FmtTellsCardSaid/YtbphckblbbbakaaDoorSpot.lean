/- Contracts: a place in a text that is read (spot.Spot): its end, what comes next, a sign taken. Condition: the place is in the text. -/
import Derived.Test.YtbphckblbbbakaaDoorChecked
import Derived.Test.YtbphckblbbbakaaDoorOwn
import Derived.Test.YtbphckblbbbakaaDoorLater
import Derived.Test.YtbphckblbbbakaaDoorBuilder
import Derived.Deep.DrawnRows
import Derived.BigQuiet
namespace Go.Proofs.YtbphckblbbbakaaDoor
open Go.ChangeShapes Go.WideShapes Go.ChangeAt Go.RowKit
attribute [local go_sem ↓] Go.wp_at_zero Go.wp_at_succ
set_option maxRecDepth 100000
set_option linter.unusedVariables false
/-- A place in a text lies at an address. -/
def SpAtC (w : World) (b o : Nat) (s : ByteArray) (k : Nat) : Prop := w.cell? ⟨b, o, none⟩ = some (.string s) ∧ w.cell? ⟨b, o + 1, none⟩ = some (.int .i64 k)
/-- Of what was there only the place has changed: it is k now. -/
structure Mvd (w w' : World) (b o k : Nat) : Prop where
  grown : w.grownBy w' (some b)
  cells : ∀ q, q ≠ o + 1 → w'.cell? ⟨b, q, none⟩ = w.cell? ⟨b, q, none⟩
  pos : w'.cell? ⟨b, o + 1, none⟩ = some (.int .i64 k)
  froz : ∀ q, w'.frozen? ⟨b, q, none⟩ = w.frozen? ⟨b, q, none⟩
theorem mvd_bl {w w' : World} {b o k : Nat} (hb : Below w.heap.size w w') (h : w.cell? ⟨b, o + 1, none⟩ = some (.int .i64 k)) : Mvd w w' b o k := by
  have hl := World.block_lt_of_cell? _ _ h
  exact ⟨⟨hb.os, hb.tape, hb.output, hb.size, fun i hi _ => hb.block i hi⟩, fun q _ => hb.cell (p := ⟨b, q, none⟩) hl, cell_later hb h, fun q => hb.frozen (p := ⟨b, q, none⟩) hl⟩
theorem Mvd.lt {w w' : World} {b o k : Nat} (h : Mvd w w' b o k) : b < w'.heap.size := World.block_lt_of_cell? _ _ h.pos
theorem Mvd.trans {w w1 w2 : World} {b o k k2 : Nat} (h : Mvd w w1 b o k) (g : Mvd w1 w2 b o k2) : Mvd w w2 b o k2 :=
  ⟨⟨g.grown.os.trans h.grown.os, g.grown.tape.trans h.grown.tape, g.grown.output.trans h.grown.output, Nat.le_trans h.grown.size g.grown.size, fun i hi hn => (g.grown.block i (Nat.lt_of_lt_of_le hi h.grown.size) hn).trans (h.grown.block i hi hn)⟩,
    fun q hq => (g.cells q hq).trans (h.cells q hq), g.pos, fun q => (g.froz q).trans (h.froz q)⟩
theorem Mvd.bl {w w1 w2 : World} {b o k : Nat} (h : Mvd w w1 b o k) (hb : Below w1.heap.size w1 w2) : Mvd w w2 b o k := h.trans (mvd_bl hb h.pos)
theorem Mvd.set {w w1 : World} {b o k : Nat} (h : Mvd w w1 b o k) (k' : Nat) : Mvd w (w1.setCell ⟨b, o + 1, none⟩ (.int .i64 k')) b o k' :=
  ⟨grown_set h.grown _ _, fun q hq => (World.cell?_setCell_other _ _ _ _ (fun e => hq (by injection e with _ e; exact e.symm))).trans (h.cells q hq), World.cell?_setCell_same _ _ _ h.pos, fun q => by rw [World.frozen?_setCell]; exact h.froz q⟩
theorem Mvd.at {w w' : World} {b o k k0 : Nat} {s : ByteArray} (h : Mvd w w' b o k) (h0 : SpAtC w b o s k0) : SpAtC w' b o s k := ⟨(h.cells o (by omega)).trans h0.1, h.pos⟩
theorem spot_bl {w w' : World} {b o : Nat} {s : ByteArray} {k : Nat} (h : SpAtC w b o s k) (hb : Below w.heap.size w w') : SpAtC w' b o s k := ⟨cell_later hb h.1, cell_later hb h.2⟩
/-- A Builder of the call's own stays while an older block changes. -/
theorem isb_grown {T e : TypeId} {B b : Nat} {bs : List Value} {w w' : World} (h : Lib.IsBuilder T e B b bs w) {g : Nat} (hg : w.grownBy w' (some g)) (hgB : g < B) (hbB : B ≤ b) : Lib.IsBuilder T e B b bs w' := by
  have key : ∀ p, Lib.BuilderAt T e B b p bs w → Lib.BuilderAt T e B b p bs w' := by
    rintro p ⟨h1, q, h2, h3, h4⟩
    refine ⟨h1, q, (hg.block _ (Array.getElem?_eq_some_iff.1 h2).1 (by intro e; injection e with e; omega)).trans h2, h3.kept hg ?_, h4⟩
    rcases hv : q.ownBlock with _ | n
    · exact .inl rfl
    · refine .inr ?_
      have := (h3.lt n hv).1
      intro e
      injection e with e
      omega
  exact h.elim (fun h => .inl (key _ h)) (fun h => .inr (key _ h))
theorem spot_done {w : World} {b o : Nat} {s : ByteArray} {k : Nat} (h : SpAtC w b o s k) (r : Bool) (hr : decide (s.size ≤ k) = r) : Calls Tryd.prog 29 #[.pointer (some ⟨b, o, none⟩)] w fun e w' => e = .returned (.bool r) ∧ ∃ n, w' = w.drewN n := by
  obtain ⟨h1, h2⟩ := h
  have g1 : decide ((s.size : Int) ≤ (k : Int)) = r := by rw [← hr]; simp
  clear hr
  go_enter Tryd.func29, Tryd.ntmps29
  go_wp2
  have g1' : decide (s.size ≤ k) = r := by rw [← g1]; simp
  go_quiet (fail)
  go_wp2
  go_ret
  exact ⟨by first | rfl | (rw [← g1]) | (rw [← g1']), _, rfl⟩
def hasB (s : ByteArray) (k : Nat) (c : Int) : Bool := if h : k < s.size then ((s[k].toNat : Int) == c) else false
theorem spot_done' {w : World} {b o : Nat} {s : ByteArray} {k : Nat} (h : SpAtC w b o s k) (r : Bool) (hr : decide (s.size ≤ k) = r) : Calls Tryd.prog 29 #[.pointer (some ⟨b, o, none⟩)] w fun e w' => e = .returned (.bool r) ∧ Below w.heap.size w w' :=
  (spot_done h r hr).mono fun e w' ⟨h1, n, h2⟩ => ⟨h1, h2 ▸ bl_drewN (bl_refl w) n⟩
attribute [local go_sem] later_cell later_frozen
theorem spot_has {w : World} {b o : Nat} {s : ByteArray} {k : Nat} (h : SpAtC w b o s k) (c : Int) (r : Bool) (hr : hasB s k c = r) (hs : s.size ≤ 1000000) : Calls Tryd.prog 30 #[.pointer (some ⟨b, o, none⟩), .int .u8 c] w fun e w' => e = .returned (.bool r) ∧ Below w.heap.size w w' := by
  have hbl := World.block_lt_of_cell? _ _ h.1
  have HS := hide h
  obtain ⟨d, hd⟩ : ∃ d, decide (s.size ≤ k) = d := ⟨_, rfl⟩
  have HD := hide (fun (W : World) (hb : Below w.heap.size w W) => spot_done' (spot_bl HS.out hb) d hd)
  obtain ⟨h1, h2⟩ := h
  unfold hasB at hr
  by_cases hk : k < s.size
  · obtain rfl : d = false := by rw [← hd]; exact decide_eq_false (by omega)
    rw [dif_pos hk] at hr
    have q1 : (0 : Int) ≤ (k : Int) := by omega
    have q2 : (k : Int) < (s.size : Int) := by omega
    clear hd
    go_enter Tryd.func30, Tryd.ntmps30
    go_wp2
    refine wp_region_later (by kernel_rfl) (by kernel_rfl) ?_
    repeat (go_big_quiet_step (first
      | (go_at_call 29; exact later_call (HD.out _ (Later.below _)))
      | exact rfl))
    refine wpQuiet_nil ?_
    rintro w9 ⟨⟨_, hb9⟩, rfl⟩
    go_wp2
    go_ret
    exact ⟨by rw [← hr]; rfl, hb9⟩
  · obtain rfl : d = true := by rw [← hd]; exact decide_eq_true (by omega)
    rw [dif_neg hk] at hr
    subst hr
    clear hd
    go_enter Tryd.func30, Tryd.ntmps30
    go_wp2
    refine wp_region_later (by kernel_rfl) (by kernel_rfl) ?_
    repeat (go_big_quiet_step (first
      | (go_at_call 29; exact later_call (HD.out _ (Later.below _)))
      | exact rfl))
    refine wpQuiet_nil ?_
    rintro w9 ⟨⟨_, hb9⟩, rfl⟩
    go_wp2
    go_ret
    exact ⟨rfl, hb9⟩
def TakePost (w : World) (b o k : Nat) (r : Bool) (e : Ending) (w' : World) : Prop := e = .returned (.bool r) ∧ Mvd w w' b o (if r = true then k + 1 else k)
theorem spot_take {w : World} {b o : Nat} {s : ByteArray} {k : Nat} (h : SpAtC w b o s k) (hf : w.frozen? ⟨b, o + 1, none⟩ = false) (c : Int) (r : Bool) (hr : hasB s k c = r) (hs : s.size ≤ 1000000) : Calls Tryd.prog 43 #[.pointer (some ⟨b, o, none⟩), .int .u8 c] w (TakePost w b o k r) := by
  have hbl := World.block_lt_of_cell? _ _ h.1
  have HH := hide (spot_has h c r hr hs)
  have HS := hide h
  cases r
  · go_enter Tryd.func43, Tryd.ntmps43
    go_wp2_with fail
    refine HH.out.mono ?_
    rintro e w2 ⟨rfl, hb2⟩
    have HB := hide hb2
    clear hb2
    go_wp2
    go_ret
    exact ⟨rfl, mvd_bl HB.out HS.out.2⟩
  · have hk : k < s.size := by
      unfold hasB at hr
      by_cases hk : k < s.size
      · exact hk
      · rw [dif_neg hk] at hr; cases hr
    have q1 : IntKind.i64.wrap ((k : Int) + 1) = (k : Int) + 1 := by rw [IntKind.wrap_i64]; omega
    go_enter Tryd.func43, Tryd.ntmps43
    go_wp2_with fail
    refine HH.out.mono ?_
    rintro e w2 ⟨rfl, hb2⟩
    have HB := hide hb2
    obtain ⟨c1, c2⟩ := spot_bl HS.out hb2
    have hf2 := (hb2.frozen (p := ⟨b, o + 1, none⟩) hbl).trans hf
    clear hb2
    go_wp2
    go_ret
    exact ⟨rfl, (mvd_bl HB.out HS.out.2).set (k + 1)⟩
end Go.Proofs.YtbphckblbbbakaaDoor
