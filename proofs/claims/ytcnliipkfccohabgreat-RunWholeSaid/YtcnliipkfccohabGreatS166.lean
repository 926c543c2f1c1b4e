/- Contracts: a place among a pattern's characters (gimletref14's reader): the character there, a character taken. Condition: at most 1000 characters. Contracts: the reference's letters and digits; what a character behind a backslash stands for; a number (gimletref14). Condition: at most 1000 characters. Contract: an item of a class (gimletref14's item). Condition: the place is among the characters, not at a bracket that closes. What the reference's reading functions answer; contract: what stands behind a backslash (gimletref14's back). Condition: the place is among the characters, no edge behind the backslash. Plain facts: bounds read with three digits at most are bounds read with four. No condition. Contract: a quantifier of one sign, or none (gimletref14's times). Condition: the place is among the characters, at no brace. Cells of a block that may be written, passed on; contract: a quantifier in braces (gimletref14's times). Condition: the place is among the characters, at a brace. And 5 texts more. -/
import Derived.Test.YtcnliipkfccohabGreatS165
import Derived.Test.YtcnliipkfccohabGreatS161
namespace Go.Proofs.YtcnliipkfccohabGreat
end Go.Proofs.YtcnliipkfccohabGreat
namespace Go.Proofs.YtcnliipkfccohabGreat.SetM
end Go.Proofs.YtcnliipkfccohabGreat.SetM
namespace Go.Proofs.YtcnliipkfccohabGreat.SpanM
end Go.Proofs.YtcnliipkfccohabGreat.SpanM
section
namespace Go.Proofs.YtcnliipkfccohabGreat
section
open SetM
open Go.ChangeShapes Go.WideShapes Go.ChangeAt Go.RowKit
attribute [local go_sem ↓] Go.wp_at_zero Go.wp_at_succ
set_option maxRecDepth 100000
set_option linter.unusedVariables false
theorem split_cons {l : List UInt8} (h : l ≠ []) : splitL l = hdC l :: splitL (tlC l) := splitL_eq l (List.length_pos_iff.2 h)
theorem split_nil : splitL [] = [] := rfl
theorem bs_self (b : ByteArray) : bsC b.data.toList = b := by
  cases b with
  | mk d => simp [bsC]
structure Rp (w : World) (b : Nat) (A : Option Addr) (c : Nat) (zs : List ByteArray) (l : List UInt8) : Prop where
  row : w.cell? ⟨b, 0, none⟩ = some (.slice A zs.length c)
  pos : w.cell? ⟨b, 1, none⟩ = some (.int .i64 ((zs.length - (splitL l).length : Nat) : Int))
  fz : w.frozen? ⟨b, 1, none⟩ = false
  cs : ∀ k (h : k < zs.length), ∃ g, A = some ⟨g, 0, none⟩ ∧ g ≠ b ∧ w.cell? ⟨g, k, none⟩ = some (.string zs[k])
  suf : splitL l <:+ zs.map (fun z => z.data.toList)
  sz : zs.length ≤ 1000
  bz : ∀ z ∈ zs, z.size ≤ 256
def Rv (w w' : World) (b : Nat) (zs : List ByteArray) (l : List UInt8) : Prop := Mvd w w' b 0 (zs.length - (splitL l).length) ∧ splitL l <:+ zs.map (fun z => z.data.toList)
theorem Rp.lt {w : World} {b : Nat} {A : Option Addr} {c : Nat} {zs : List ByteArray} {l : List UInt8} (h : Rp w b A c zs l) : b < w.heap.size := World.block_lt_of_cell? _ _ h.pos
theorem Rp.le {w : World} {b : Nat} {A : Option Addr} {c : Nat} {zs : List ByteArray} {l : List UInt8} (h : Rp w b A c zs l) : (splitL l).length ≤ zs.length := by have := h.suf.length_le; rwa [List.length_map] at this
theorem Rv.pl {w w' : World} {b : Nat} {A : Option Addr} {c : Nat} {zs : List ByteArray} {l l' : List UInt8} (h : Rv w w' b zs l') (h0 : Rp w b A c zs l) : Rp w' b A c zs l' := by
  refine ⟨(h.1.cells 0 (by omega)).trans h0.row, h.1.pos, (h.1.froz 1).trans h0.fz, fun k hk => ?_, h.2, h0.sz, h0.bz⟩
  obtain ⟨g, g1, g2, g3⟩ := h0.cs k hk
  have g4 := World.block_lt_of_cell? _ _ g3
  refine ⟨g, g1, g2, ?_⟩
  rw [← g3]
  simp only [World.cell?, h.1.grown.block g g4 (fun e => g2 (by injection e))]
theorem Rv.trans {w w1 w2 : World} {b : Nat} {zs : List ByteArray} {l l' : List UInt8} (h : Rv w w1 b zs l) (g : Rv w1 w2 b zs l') : Rv w w2 b zs l' := ⟨h.1.trans g.1, g.2⟩
theorem Rv.bl {w w1 w2 : World} {b : Nat} {zs : List ByteArray} {l : List UInt8} (h : Rv w w1 b zs l) (hb : Below w1.heap.size w1 w2) : Rv w w2 b zs l := ⟨h.1.bl hb, h.2⟩
theorem Rp.self {w w' : World} {b : Nat} {A : Option Addr} {c : Nat} {zs : List ByteArray} {l : List UInt8} (h : Rp w b A c zs l) (hb : Below w.heap.size w w') : Rv w w' b zs l := ⟨mvd_bl hb h.pos, h.suf⟩
theorem Rp.bl {w w' : World} {b : Nat} {A : Option Addr} {c : Nat} {zs : List ByteArray} {l : List UInt8} (h : Rp w b A c zs l) (hb : Below w.heap.size w w') : Rp w' b A c zs l := (h.self hb).pl h
theorem tl_split {x : List (List UInt8)} {l : List UInt8} (h : splitL l <:+ x) : splitL (tlC l) <:+ x := by
  by_cases h0 : l = []
  · subst h0; exact h
  · rw [split_cons h0] at h; exact (List.suffix_cons _ _).trans h
theorem Rp.here {w : World} {b : Nat} {A : Option Addr} {c : Nat} {zs : List ByteArray} {l : List UInt8} (h : Rp w b A c zs l) (h0 : l ≠ []) :
    ∃ k g, zs.length - (splitL l).length = k ∧ k < zs.length ∧ zs.length - (splitL (tlC l)).length = k + 1 ∧ A = some ⟨g, 0, none⟩ ∧ g ≠ b ∧ w.cell? ⟨g, k, none⟩ = some (.string (bsC (hdC l))) := by
  have hle := h.le
  have hs := h.suf
  rw [split_cons h0] at hle hs ⊢
  rw [List.length_cons] at hle ⊢
  obtain ⟨pre, hp⟩ := hs
  have hpl : pre.length + ((splitL (tlC l)).length + 1) = zs.length := by
    have := congrArg List.length hp
    rw [List.length_append, List.length_cons, List.length_map] at this; exact this
  have hk : zs.length - ((splitL (tlC l)).length + 1) < zs.length := by omega
  obtain ⟨g, g1, g2, g3⟩ := h.cs _ hk
  refine ⟨_, g, rfl, hk, by omega, g1, g2, ?_⟩
  rw [g3]
  have e1 : (zs.map (fun z => z.data.toList))[zs.length - ((splitL (tlC l)).length + 1)]? = some (hdC l) := by
    rw [← hp, List.getElem?_append_right (by omega), show zs.length - ((splitL (tlC l)).length + 1) - pre.length = 0 by omega]; rfl
  rw [List.getElem?_map, List.getElem?_eq_getElem hk] at e1
  have e2 : zs[zs.length - ((splitL (tlC l)).length + 1)].data.toList = hdC l := by simpa using e1
  rw [← e2, bs_self]
theorem rr_see {w : World} {b : Nat} {A : Option Addr} {c : Nat} {zs : List ByteArray} {l : List UInt8} (h : Rp w b A c zs l) (x : ByteArray) (hx : bsC (hdC l) = x) : Calls Tryz.prog 40 #[.pointer (some ⟨b, 0, none⟩)] w fun e w' => e = .returned (.string x) ∧ Below w.heap.size w w' := by
  have h1 := h.row
  have hsz := h.sz
  by_cases h0 : l = []
  · subst h0
    have h2 := h.pos
    rw [split_nil, List.length_nil, Nat.sub_zero] at h2
    have hx' : x = ⟨#[]⟩ := by rw [← hx]; rfl
    subst hx'
    clear hx h
    go_enter Tryz.func40, Tryz.ntmps40
    go_wp2
    go_quiet (fail)
    go_wp2
    go_ret
    exact ⟨rfl, bl_drewN (bl_refl w) _⟩
  · obtain ⟨k, g, hk, hkn, hk1, rfl, hgb, hc⟩ := h.here h0
    have h2 := h.pos
    rw [hk] at h2
    rw [hx] at hc
    obtain ⟨N, hN⟩ : ∃ N, zs.length = N := ⟨_, rfl⟩
    rw [hN] at h1 hkn hsz
    have d1 : decide ((N : Int) ≤ (k : Int)) = false := decide_eq_false (by omega)
    have q1 : (0 : Int) ≤ (k : Int) := by omega
    have q2 : (k : Int) < (N : Int) := by omega
    clear hx h hk hk1 hgb h0 hN
    go_enter Tryz.func40, Tryz.ntmps40
    go_wp2
    go_quiet (fail)
    go_wp2
    go_quiet (fail)
    go_wp2
    go_ret
    exact ⟨rfl, bl_drewN (bl_drewN (bl_refl w) _) _⟩
theorem rr_take {w : World} {b : Nat} {A : Option Addr} {c : Nat} {zs : List ByteArray} {l : List UInt8} (h : Rp w b A c zs l) (x : ByteArray) (hne : x.data.toList ≠ []) (r : Bool) (hr : (hdC l == x.data.toList) = r) : Calls Tryz.prog 43 #[.pointer (some ⟨b, 0, none⟩), .string x] w fun e w' => e = .returned (.bool r) ∧ Rv w w' b zs (if r = true then tlC l else l) := by
  have HS := hide h
  have h1 := h.row
  have hsz := h.sz
  by_cases h0 : l = []
  · subst h0
    have h2 := h.pos
    rw [split_nil, List.length_nil, Nat.sub_zero] at h2
    have hr' : r = false := by
      rw [← hr, Bool.eq_false_iff]; intro h3; exact hne (beq_iff_eq.1 h3).symm
    subst hr'
    obtain ⟨N, hN⟩ : ∃ N, zs.length = N := ⟨_, rfl⟩
    rw [hN] at h1 h2 hsz
    have d1 : decide ((N : Int) ≤ (N : Int)) = true := decide_eq_true (by omega)
    clear hr hne h hN
    go_enter Tryz.func43, Tryz.ntmps43
    go_wp2
    go_quiet (fail)
    go_wp2
    go_ret
    exact ⟨rfl, HS.out.self (bl_drewN (bl_refl w) _)⟩
  · obtain ⟨k, g, hk, hkn, hk1, rfl, hgb, hc⟩ := h.here h0
    have h2 := h.pos
    rw [hk] at h2
    obtain ⟨y, hy⟩ : ∃ y, bsC (hdC l) = y := ⟨_, rfl⟩
    rw [hy] at hc
    have hyd : y.data.toList = hdC l := by rw [← hy, bsC_data]
    have heq : (y.toList == x.toList) = r := by rw [Go.ByteArray.toList_eq, Go.ByteArray.toList_eq, hyd, hr]
    have HK1 := hide hk1
    have HK2 := hide hk
    obtain ⟨N, hN⟩ : ∃ N, zs.length = N := ⟨_, rfl⟩
    rw [hN] at h1 hkn hsz
    have hfz := h.fz
    have d1 : decide ((N : Int) ≤ (k : Int)) = false := decide_eq_false (by omega)
    have q1 : (0 : Int) ≤ (k : Int) := by omega
    have q2 : (k : Int) < (N : Int) := by omega
    have q3 : IntKind.i64.wrap ((k : Int) + 1) = (k : Int) + 1 := by rw [IntKind.wrap_i64]; omega
    have HFR := hide (show ∀ n, Rv w ((w.drewN n).setCell ⟨b, 0 + 1, none⟩ (.int .i64 ((k + 1 : Nat) : Int))) b zs (tlC l) from fun n => ⟨by rw [hk1]; exact (mvd_bl (bl_drewN (bl_refl w) n) h2).set (k + 1), tl_split h.suf⟩)
    clear hy hyd hr hne h hk hk1 hgb h0 hN
    cases r
    · go_enter Tryz.func43, Tryz.ntmps43
      go_wp2
      go_quiet (fail)
      go_wp2
      go_ret
      exact ⟨rfl, HS.out.self (bl_drewN (bl_refl w) _)⟩
    · go_enter Tryz.func43, Tryz.ntmps43
      go_wp2
      go_quiet (fail)
      go_wp2
      go_ret
      exact ⟨rfl, HFR.out _⟩
end
section
open SetM
open Go.ChangeShapes Go.WideShapes Go.ChangeAt Go.RowKit
attribute [local go_sem ↓] Go.wp_at_zero Go.wp_at_succ
set_option maxRecDepth 100000
set_option linter.unusedVariables false
theorem rr_see_at {w W : World} {b : Nat} {A : Option Addr} {c : Nat} {zs : List ByteArray} {l : List UInt8} (h : Rp w b A c zs l) (hb : Below w.heap.size w W) (x : ByteArray) (hx : bsC (hdC l) = x) (k : Nat) (hk : zs.length - (splitL l).length = k) :
    Calls Tryz.prog 40 #[.pointer (some ⟨b, 0, none⟩)] W fun e w' => e = .returned (.string x) ∧ Below w.heap.size w w' ∧ w'.cell? ⟨b, 1, none⟩ = some (.int .i64 (k : Int)) ∧ w'.frozen? ⟨b, 1, none⟩ = false := by
  refine (rr_see (h.bl hb) x hx).mono ?_
  rintro e w' ⟨rfl, hb'⟩
  have hp := (h.bl hb).bl hb'
  have h1 := hp.pos
  rw [hk] at h1
  exact ⟨rfl, bl_trans hb hb', h1, hp.fz⟩
theorem rr_step {w W : World} {b : Nat} {A : Option Addr} {c : Nat} {zs : List ByteArray} {l : List UInt8} (h : Rp w b A c zs l) (h0 : l ≠ []) (hb : Below w.heap.size w W) (k : Nat) (hk : zs.length - (splitL l).length = k) :
    Rv w (W.setCell ⟨b, 1, none⟩ (.int .i64 ((k : Int) + 1))) b zs (tlC l) := by
  obtain ⟨k', g, e1, _, e2, _⟩ := h.here h0
  rw [hk] at e1
  subst e1
  refine ⟨?_, tl_split h.suf⟩
  rw [e2]
  exact (mvd_bl hb h.pos).set (k + 1)
end
section
open Go.ChangeShapes Go.WideShapes Go.ChangeAt Go.RowKit
open SetM
attribute [local go_sem ↓] Go.wp_at_zero Go.wp_at_succ
set_option maxRecDepth 100000
set_option linter.unusedVariables false
attribute [local go_sem] later_cell later_frozen
theorem Mvd.block {w w' : World} {b o k : Nat} (h : Mvd w w' b o k) {i : Nat} (hi : i < w.heap.size) (hb : i ≠ b) : w'.heap[i]? = w.heap[i]? :=
  h.grown.block i hi (fun e => hb (by injection e))
theorem Mvd.cell {w w' : World} {b o k : Nat} (h : Mvd w w' b o k) {p : Addr} {v : Value} (hc : w.cell? p = some v) (hb : p.block ≠ b) : w'.cell? p = some v := by
  have hi := World.block_lt_of_cell? _ _ hc
  rw [← hc]
  have hbk := h.block hi hb
  simp only [World.cell?, hbk]
theorem Mvd.frz {w w' : World} {b o k : Nat} (h : Mvd w w' b o k) {p : Addr} (hi : p.block < w.heap.size) (hb : p.block ≠ b) : w'.frozen? p = w.frozen? p := by
  have hbk := h.block hi hb
  simp only [World.frozen?, hbk]
theorem Mvd.append {w w1 w2 : World} {b o k g : Nat} (h : Mvd w w1 b o k) (hg : w1.grownBy w2 (some g)) (hb : g ≠ b) (hw : w.heap.size ≤ g) : Mvd w w2 b o k := by
  have hlt := h.lt
  have hbk : w2.heap[b]? = w1.heap[b]? := hg.block b hlt (fun e => hb (by injection e with e; exact e.symm))
  have hc : ∀ q, w2.cell? ⟨b, q, none⟩ = w1.cell? ⟨b, q, none⟩ := fun q => by simp only [World.cell?, hbk]
  have hf : ∀ q, w2.frozen? ⟨b, q, none⟩ = w1.frozen? ⟨b, q, none⟩ := fun q => by simp only [World.frozen?, hbk]
  refine ⟨⟨hg.os.trans h.grown.os, hg.tape.trans h.grown.tape, hg.output.trans h.grown.output, Nat.le_trans h.grown.size hg.size, fun i hi hn => ?_⟩, fun q hq => (hc q).trans (h.cells q hq), (hc _).trans h.pos, fun q => (hf q).trans (h.froz q)⟩
  exact (hg.block i (Nat.lt_of_lt_of_le hi h.grown.size) (fun e => by injection e with e; omega)).trans (h.grown.block i hi hn)
theorem Mvd.put {w w1 : World} {b o k g : Nat} (h : Mvd w w1 b o k) (hb : g ≠ b) (hw : w.heap.size ≤ g) (q : Nat) (u : Value) : Mvd w (w1.setCell ⟨g, q, none⟩ u) b o k :=
  h.append (grown_set (grown_refl w1 _) q u) hb hw
theorem mvd8 {w w1 : World} {b o k g : Nat} (h : Mvd w w1 b o k) (hb : g ≠ b) (hw : w.heap.size ≤ g) (o0 : Nat) (u0 : Value) (o1 : Nat) (u1 : Value) (o2 : Nat) (u2 : Value) (o3 : Nat) (u3 : Value) (o4 : Nat) (u4 : Value) (o5 : Nat) (u5 : Value) (o6 : Nat) (u6 : Value) (o7 : Nat) (u7 : Value) :
    Mvd w ((((((((w1.setCell ⟨g, o0, none⟩ u0).setCell ⟨g, o1, none⟩ u1).setCell ⟨g, o2, none⟩ u2).setCell ⟨g, o3, none⟩ u3).setCell ⟨g, o4, none⟩ u4).setCell ⟨g, o5, none⟩ u5).setCell ⟨g, o6, none⟩ u6).setCell ⟨g, o7, none⟩ u7) b o k :=
  (((((((h.put hb hw _ _).put hb hw _ _).put hb hw _ _).put hb hw _ _).put hb hw _ _).put hb hw _ _).put hb hw _ _).put hb hw _ _
theorem rv8 {w w1 : World} {b g : Nat} {zs : List ByteArray} {l : List UInt8} (h : Rv w w1 b zs l) (hb : g ≠ b) (hw : w.heap.size ≤ g) (o0 : Nat) (u0 : Value) (o1 : Nat) (u1 : Value) (o2 : Nat) (u2 : Value) (o3 : Nat) (u3 : Value) (o4 : Nat) (u4 : Value) (o5 : Nat) (u5 : Value) (o6 : Nat) (u6 : Value) (o7 : Nat) (u7 : Value) :
    Rv w ((((((((w1.setCell ⟨g, o0, none⟩ u0).setCell ⟨g, o1, none⟩ u1).setCell ⟨g, o2, none⟩ u2).setCell ⟨g, o3, none⟩ u3).setCell ⟨g, o4, none⟩ u4).setCell ⟨g, o5, none⟩ u5).setCell ⟨g, o6, none⟩ u6).setCell ⟨g, o7, none⟩ u7) b zs l :=
  ⟨mvd8 h.1 hb hw _ _ _ _ _ _ _ _ _ _ _ _ _ _ _ _, h.2⟩
end
section
open Go.ChangeShapes Go.WideShapes Go.ChangeAt Go.RowKit
open SetM
attribute [local go_sem ↓] Go.wp_at_zero Go.wp_at_succ
set_option maxRecDepth 100000
set_option linter.unusedVariables false
attribute [local go_sem] later_cell later_frozen
theorem Rv.put {w w1 : World} {b g : Nat} {zs : List ByteArray} {l : List UInt8} (h : Rv w w1 b zs l) (hb : g ≠ b) (hw : w.heap.size ≤ g) (o : Nat) (u : Value) : Rv w (w1.setCell ⟨g, o, none⟩ u) b zs l := ⟨h.1.put hb hw o u, h.2⟩
theorem rv_kept {w w' : World} {b N : Nat} {zs : List ByteArray} {l : List UInt8} (h : Rv w w' b zs l) (hb : b < N) : Kept N w w' := fun p v hp hc => h.1.cell hc (by omega)
theorem set_at {W : World} {g o : Nat} {u v : Value} (h : W.cell? ⟨g, o, none⟩ = some u) : (W.setCell ⟨g, o, none⟩ v).cell? ⟨g, o, none⟩ = some v := World.cell?_setCell_same _ _ _ h
theorem set_off {W : World} {g o j : Nat} {u v : Value} (h : W.cell? ⟨g, j, none⟩ = some u) (hn : o ≠ j) : (W.setCell ⟨g, o, none⟩ v).cell? ⟨g, j, none⟩ = some u := by
  rw [World.cell?_setCell_other _ _ _ _ (fun e => hn (by injection e))]; exact h
theorem set8 {W : World} {n g j : Nat} {u : Value} {o0 o1 o2 o3 o4 o5 o6 o7 : Nat} {u0 u1 u2 u3 u4 u5 u6 u7 : Value} (h : W.cell? ⟨n, j, none⟩ = some u) (hn : g ≠ n) :
    ((((((((W.setCell ⟨g, o0, none⟩ u0).setCell ⟨g, o1, none⟩ u1).setCell ⟨g, o2, none⟩ u2).setCell ⟨g, o3, none⟩ u3).setCell ⟨g, o4, none⟩ u4).setCell ⟨g, o5, none⟩ u5).setCell ⟨g, o6, none⟩ u6).setCell ⟨g, o7, none⟩ u7).cell? ⟨n, j, none⟩ = some u :=
  set_blk (set_blk (set_blk (set_blk (set_blk (set_blk (set_blk (set_blk h hn) hn) hn) hn) hn) hn) hn) hn
end
section
open Go.ChangeShapes Go.WideShapes Go.ChangeAt Go.RowKit
open SetM
attribute [local go_sem ↓] Go.wp_at_zero Go.wp_at_succ
set_option maxRecDepth 100000
set_option linter.unusedVariables false
attribute [local go_sem] later_cell later_frozen
structure Cl (W : World) (g : Nat) (cs : List Value) : Prop where
  c : ∀ j u, cs[j]? = some u → W.cell? ⟨g, j, none⟩ = some u
  f : ∀ o, W.frozen? ⟨g, o, none⟩ = false
  s : g < W.heap.size
theorem Cl.mv {W W' : World} {b k g : Nat} {cs : List Value} (h : Cl W g cs) (hm : Mvd W W' b 0 k) (hb : g ≠ b) : Cl W' g cs :=
  ⟨fun j u hu => hm.cell (h.c j u hu) hb, fun o => (hm.frz (p := ⟨g, o, none⟩) h.s hb).trans (h.f o), Nat.lt_of_lt_of_le h.s hm.grown.size⟩
theorem Cl.bl {W W' : World} {g : Nat} {cs : List Value} (h : Cl W g cs) (hb : Below W.heap.size W W') : Cl W' g cs :=
  ⟨fun j u hu => cell_later hb (h.c j u hu), fun o => (hb.frozen (p := ⟨g, o, none⟩) h.s).trans (h.f o), Nat.lt_of_lt_of_le h.s hb.size⟩
theorem Cl.put {W : World} {g : Nat} {cs : List Value} (h : Cl W g cs) (o : Nat) (v : Value) : Cl (W.setCell ⟨g, o, none⟩ v) g (cs.set o v) := by
  refine ⟨fun j u hu => ?_, fun q => by rw [World.frozen?_setCell]; exact h.f q, by simpa using h.s⟩
  rw [List.getElem?_set] at hu
  split at hu
  · rename_i e
    subst e
    split at hu
    · rename_i hlt
      injection hu with hu
      subst hu
      exact set_at (h.c o _ (List.getElem?_eq_getElem hlt))
    · cases hu
  · rename_i e
    exact set_off (h.c j u hu) e
theorem Cl.eight {W : World} {g : Nat} {a0 a1 a2 a3 a4 a5 a6 a7 : Value} (h : Cl W g [a0, a1, a2, a3, a4, a5, a6, a7]) : W.cell? ⟨g, 0, none⟩ = some a0 ∧ W.cell? ⟨g, 1, none⟩ = some a1 ∧ W.cell? ⟨g, 2, none⟩ = some a2 ∧ W.cell? ⟨g, 3, none⟩ = some a3 ∧ W.cell? ⟨g, 4, none⟩ = some a4 ∧ W.cell? ⟨g, 5, none⟩ = some a5 ∧ W.cell? ⟨g, 6, none⟩ = some a6 ∧ W.cell? ⟨g, 7, none⟩ = some a7 :=
  ⟨h.c 0 _ rfl, h.c 1 _ rfl, h.c 2 _ rfl, h.c 3 _ rfl, h.c 4 _ rfl, h.c 5 _ rfl, h.c 6 _ rfl, h.c 7 _ rfl⟩
theorem cl_alloc (W : World) (cs : List Value) (T : TypeId) : Cl (W.alloc (.cells cs.toArray T)) W.heap.size cs :=
  ⟨ks_alloc rfl, fun o => by go_simp, by simp⟩
end
end Go.Proofs.YtcnliipkfccohabGreat
end
section
namespace Go.Proofs.YtcnliipkfccohabGreat
section
open Go.ChangeShapes Go.WideShapes Go.ChangeAt Go.RowKit
open SetM
attribute [local go_sem ↓] Go.wp_at_zero Go.wp_at_succ
set_option maxRecDepth 100000
set_option linter.unusedVariables false
attribute [local go_sem] later_cell later_frozen lt_bl le_bl
theorem split_join : ∀ (n : Nat) (l : List UInt8), l.length < n → (splitL l).flatten = l
  | 0, l, h => absurd h (Nat.not_lt_zero _)
  | n + 1, l, h => by
    by_cases h0 : l = []
    · subst h0; rfl
    · rw [split_cons h0, List.flatten_cons, split_join n (tlC l) (by have := tl_len l h0; omega), hd_tl]
theorem spl_lt {zs : List (List UInt8)} {l r : List UInt8} (hl : splitL l <:+ zs) (hr : splitL r <:+ zs) (h : r.length < l.length) : (splitL r).length < (splitL l).length := by
  rcases Nat.lt_or_ge (splitL r).length (splitL l).length with h1 | h1
  · exact h1
  · obtain ⟨p, hp⟩ := List.suffix_of_suffix_length_le hl hr h1
    have := congrArg (fun x => x.flatten.length) hp
    simp only [List.flatten_append, List.length_append, split_join _ l (Nat.lt_succ_self _), split_join _ r (Nat.lt_succ_self _)] at this
    omega
theorem own_rv {w w' : World} {base size n b k : Nat} {e : TypeId} {v : Value} {xs : List Value} (h : w.ownsRow base e size v n xs) (hm : Mvd w w' b 0 k) (hb : b < base) : w'.ownsRow base e size v n xs := by
  refine h.kept hm.grown ?_
  rcases hv : v.ownBlock with _ | k
  · exact .inl rfl
  · refine .inr ?_
    have := (h.lt k hv).1
    intro e
    injection e with e
    omega
theorem Rv.appendv {w w1 w2 : World} {b base size n : Nat} {e : TypeId} {v : Value} {xs : List Value} {zs : List ByteArray} {l : List UInt8} (h : Rv w w1 b zs l) (ho : w1.ownsRow base e size v n xs) (hg : w1.grownBy w2 v.ownBlock) (hb : b < base) (hw : w.heap.size ≤ base) : Rv w w2 b zs l := by
  rcases hv : v.ownBlock with _ | g
  · rw [hv] at hg
    exact h.bl (bl_grown (bl_refl _) hg (fun k hk => by cases hk))
  · rw [hv] at hg
    have := (ho.lt g hv).1
    exact ⟨h.1.append hg (by omega) (by omega), h.2⟩
theorem posOf_rv {w w' : World} {b : Nat} {zs : List ByteArray} {l : List UInt8} (h : Rv w w' b zs l) : posOf w' b = zs.length - (splitL l).length := by
  unfold posOf
  have := h.1.pos
  simp only [Nat.zero_add] at this
  rw [this]
  simp [intOf]
end
section
open Go.ChangeShapes Go.WideShapes Go.ChangeAt Go.RowKit
open SetM
attribute [local go_sem ↓] Go.wp_at_zero Go.wp_at_succ
set_option maxRecDepth 100000
set_option linter.unusedVariables false
theorem Fr.kid {n : Nat} {t x : Rt} (h : Fr n t) (hx : x ∈ t.kids) : Fr n x := by cases h with | mk _ _ _ hs => exact hs x hx
def RsfPost (N : Nat) (x : Rt) (w : World) : Ending → World → Prop := fun e w' => ∃ t', e = .returned t'.v ∧ Below w.heap.size w w' ∧ RxAt w' t' ∧ er t' = x ∧ Fr N t'
def KpfPost (N : Nat) (kind : Int) (l : List Rt) (w0 w : World) : Ending → World → Prop := fun e w' => ∃ v' L, e = .returned v' ∧ Below w.heap.size w w' ∧ KsAt w' v' L ∧ FrV w.heap.size v' ∧ (∀ x ∈ L, RxAt w0 x ∧ Fr N x) ∧ L.map er = flK kind l
set_option maxHeartbeats 16000000 in
theorem rkidsf_any {N : Nat} (kind : Int) (v : Value) (l : List Rt) (w0 w : World) (h : KsAt w0 v l) (hx : ∀ i (hi : i < l.length), RxAt w0 l[i]) (hz : sL l ≤ 100000) (hb0 : Below w0.heap.size w0 w) (hfx : ∀ i (hi : i < l.length), Fr N l[i]) :
    Calls Tryz.prog 69 #[.int .i64 kind, v] w (KpfPost N kind l w0 w) := by
  obtain ⟨i0, hi0, hz0', hz1, hz2⟩ := info_parts info_rx
  obtain ⟨vA, vc, rfl⟩ := ksat_len h
  have H := hide h
  have HX := hide hx
  have HFXX := hide hfx
  have hll := sL_len l
  have HZ := hide hz
  have HB0 := hide hb0
  have hst : FInv (fun t => RxAt w0 t ∧ Fr N t) kind l w (.slice none 0 0) (.int .i64 0) w := ⟨0, [], none, 0, rfl, rfl, Nat.zero_le _, by simp, hide ⟨by simp [flatX], .inl ⟨rfl, rfl⟩⟩, hide (bl_refl w), hide (fun x hx => by cases hx), hide (by simp [flK])⟩
  have HST0 := hide hst
  clear h hx hst hz hb0 hfx
  go_enter Tryz.func69, Tryz.ntmps69
  go_wp2
  go_loopw [5, 6] (fun s i wr => FInv (fun t => RxAt w0 t ∧ Fr N t) kind l w s i wr) (fun _ i _ => l.length - (intOf i).toNat)
  case atStart => exact HST0.out
  case round =>
    obtain ⟨k, L, A, c, rfl, rfl, hk, hlen, HROW, HBL, HALL, HE⟩ := hrel
    by_cases hlt : k < l.length
    · obtain ⟨b1, o1, c1', hv1, hc1, hm1, hlb1, hcell1⟩ := ksat_8 (ksat_below H.out (bl_trans HB0.out HBL.out)) (by omega)
      injection hv1 with hv1 _ hv1c
      subst hv1 hv1c
      unfold maxLen at hm1
      obtain ⟨x0, x1, x2, x3, x4, x5, x6, x7⟩ := hcell1 k hlt
      have hxp := HX.out k hlt
      have hfp9 := HFXX.out k hlt
      clear hcell1
      obtain ⟨p, hp⟩ : ∃ p, l[k] = p := ⟨_, rfl⟩
      rw [hp] at x0 x1 x2 x3 x4 x5 x6 x7 hxp hfp9
      obtain ⟨pA, pc, hprv⟩ := rwat_len hxp.rows
      obtain ⟨pB, pd, hpkv⟩ := ksat_len hxp.ks
      rw [hprv] at x3
      rw [hpkv] at x7
      have hlk : p.kids.length ≤ 100000 := by
        have h1 := sL_kid l k hlt
        have h2 := sM_eq p
        have h3 := sL_len p.kids
        have h4 := HZ.out
        rw [hp] at h1
        omega
      have hlL : L.length ≤ 100000 := by have h4 := HZ.out; have := sL_take l k; omega
      have HLEN := hide hlen
      have HP := hide hp
      have HKL := hide hlt
      have HMM := hide (show p.kids.length ≤ sM (l[k]'hlt) ∧ 1 ≤ sM (l[k]'hlt) by
        rw [hp]
        have h2 := sM_eq p
        have h3 := sL_len p.kids
        omega)
      have HCS := hide (show p.cs = [.int .i64 p.k, .string p.ch, .bool p.nt, .slice pA p.rows.length pc, .int .i64 p.mi, .int .i64 p.ma, .bool p.lz, .slice pB p.kids.length pd] by unfold Rt.cs; rw [hprv, hpkv])
      have HXP := hide hxp
      have HFP9 := hide hfp9
      have HSRC := hide (fun W (hh : Below wr.heap.size wr W) => (show Src W 8 pB p.kids.length (flatX p.kids) from by
        have h2 := ksat_below hxp.ks (bl_trans HB0.out (bl_trans HBL.out hh))
        rw [hpkv] at h2
        exact ksat_src h2))
      have HONE := hide (one_cellX p.kids (fun x hx => by obtain ⟨i, hi, rfl⟩ := List.mem_iff_getElem.1 hx; exact hxp.kid i hi))
      have HONE1 := hide (one_cellX [p] (fun x hx => by rw [List.mem_singleton] at hx; subst hx; exact hxp))
      have HFINV := hide (fun (M : List Rt) (W3 : World) (b3 : Below wr.heap.size wr W3) (hM : ∀ x ∈ M, RxAt w0 x ∧ Fr N x) (v' : Value) (w4 : World) (ho : w4.ownsRow w.heap.size 25 8 v' (L.length + M.length) (flatX L ++ flatX M)) (hg : W3.grownBy w4 (Value.slice A L.length c).ownBlock)
          (h5 : v'.ownBlock = (Value.slice A L.length c).ownBlock ∨ ∃ k, v'.ownBlock = some k ∧ W3.heap.size ≤ k) (hm : M.length ≤ sM (l[k]'HKL.out)) (hE2 : M.map er = if (l[k]'HKL.out).k = kind then (l[k]'HKL.out).kids.map er else [er (l[k]'HKL.out)]) =>
        finv_step (Q := fun t => RxAt w0 t ∧ Fr N t) HKL.out (fun x hx => ⟨⟨rx_below (HALL.out x hx).1.1 b3, (HALL.out x hx).1.2⟩, (HALL.out x hx).2⟩) (fun x hx => ⟨⟨rx_below (hM x hx).1 (bl_trans HB0.out (bl_trans HBL.out b3)), fun g hg => off_new (hM x hx).1 (Nat.le_trans HB0.out.size (World.ownsRow.lt HROW.out g hg).1)⟩, hM x hx⟩) ho hg h5 (bl_own (bl_trans HBL.out b3) (own_below HROW.out b3) hg (Nat.le_refl _)) HLEN.out hm HE.out hE2)
      have HSZ := hide HBL.out.size
      have gl : decide (k < l.length) = true := decide_eq_true hlt
      have gl' : decide ((k : Int) < (l.length : Int)) = true := decide_eq_true (by omega)
      have e5 : IntKind.i64.wrap ((k : Int) + 1) = (k : Int) + 1 := by rw [IntKind.wrap_i64]; omega
      have i1 : (0 : Int) ≤ (k : Int) := by omega
      have i2 : (k : Int) < (l.length : Int) := by omega
      clear hxp hfp9 hprv hpkv hp hlen
      by_cases hke : p.k = kind
      · have gk : (p.k == kind) = true := beq_iff_eq.2 hke
        have HE2 := hide (show p.kids.map er = if (l[k]'HKL.out).k = kind then (l[k]'HKL.out).kids.map er else [er (l[k]'HKL.out)] by rw [HP.out, if_pos hke])
        clear hke
        go_wp2_with (at_builtin; go_must (refine wpList_src5 _ rfl _ _ 23 rfl w.heap.size 25 i0 rt0.v 8 104 Tryz.underlying23 hi0 hz0' hz1 hz2 rfl (by decide) (.slice A L.length c) L.length (flatX L) rfl HROW.out pB p.kids.length pd (flatX p.kids) rfl (HSRC.out _ (bl_refl _)) HONE.out (by omega) (by decide) HSZ.out ?_); intro v' w4 hv4 hg4 h5)
        have HST := hide (HFINV.out p.kids _ (bl_refl _) (fun x hx => by obtain ⟨i, hi, rfl⟩ := List.mem_iff_getElem.1 hx; exact ⟨HXP.out.kid i hi, HFP9.out.kid (List.getElem_mem hi)⟩) v' w4 hv4 hg4 h5 HMM.out.1 HE2.out)
        clear hv4 hg4 h5
        go_wp2
        refine ⟨?_, by first | (simp [intOf]; done) | (simp [intOf]; omega)⟩
        exact HST.out
      · have gk : (p.k == kind) = false := beq_eq_false_iff_ne.2 hke
        have HE2 := hide (show [p].map er = if (l[k]'HKL.out).k = kind then (l[k]'HKL.out).kids.map er else [er (l[k]'HKL.out)] by rw [HP.out, if_neg hke]; rfl)
        have HFX := hide (show flatX [p] = [.int .i64 p.k, .string p.ch, .bool p.nt, .slice pA p.rows.length pc, .int .i64 p.mi, .int .i64 p.ma, .bool p.lz, .slice pB p.kids.length pd] by unfold flatX; simp [HCS.out])
        have hone1 := HONE1.out
        rw [HFX.out] at hone1
        have HO1 := hide hone1
        clear hke hone1
        go_wp2_with (at_builtin; go_must (refine wpList_src5 _ rfl _ _ 23 rfl w.heap.size 25 i0 rt0.v 8 104 Tryz.underlying23 hi0 hz0' hz1 hz2 rfl (by decide) (.slice A L.length c) L.length (flatX L) rfl (own_below HROW.out (bl_alloc (bl_refl _) _)) (some ⟨_, 0, none⟩) 1 1 [.int .i64 p.k, .string p.ch, .bool p.nt, .slice pA p.rows.length pc, .int .i64 p.mi, .int .i64 p.ma, .bool p.lz, .slice pB p.kids.length pd] rfl (src_block (cs := #[.int .i64 p.k, .string p.ch, .bool p.nt, .slice pA p.rows.length pc, .int .i64 p.mi, .int .i64 p.ma, .bool p.lz, .slice pB p.kids.length pd]) (heap_new (by simp)) rfl) HO1.out (by omega) (by decide) (Nat.le_trans HSZ.out (bl_alloc (bl_refl _) _).size) ?_); intro v' w4 hv4 hg4 h5)
        rw [← HFX.out] at hv4
        have HST := hide (HFINV.out [p] _ (bl_alloc (bl_refl _) _) (fun x hx => by rw [List.mem_singleton] at hx; subst hx; exact ⟨HXP.out, HFP9.out⟩) v' w4 hv4 hg4 h5 HMM.out.2 HE2.out)
        clear hv4 hg4 h5
        go_wp2
        refine ⟨?_, by first | (simp [intOf]; done) | (simp [intOf]; omega)⟩
        exact HST.out
    · obtain rfl : k = l.length := by omega
      have ho := HROW.out
      have gl : decide (l.length < l.length) = false := by simp
      have gl' : decide ((l.length : Int) < (l.length : Int)) = false := by simp
      have he := HE.out
      rw [List.take_length] at he
      have HE2 := hide he
      have HKS := hide (own_ksat ho)
      have HFV := hide (show FrV w.heap.size (.slice A L.length c) from fun x len d e => by
        rcases own_form ho with ⟨h1, _⟩ | ⟨g, c2, h1, h2, _⟩
        · rw [e] at h1; cases h1
        · rw [e] at h1; injection h1 with h1; injection h1 with h1; subst h1; exact h2)
      clear ho he
      go_wp2
      go_ret
      unfold KpfPost
      exact ⟨_, L, rfl, HBL.out, HKS.out, HFV.out, fun x hx => (HALL.out x hx).2, HE2.out⟩
set_option maxHeartbeats 16000000 in
theorem rseqf_any {N : Nat} (v : Value) (l : List Rt) (w : World) (h : KsAt w v l) (hx : ∀ i (hi : i < l.length), RxAt w l[i]) (hz : sL l ≤ 100000) (hfx : ∀ i (hi : i < l.length), Fr N l[i]) (hN : N ≤ w.heap.size) :
    Calls Tryz.prog 42 #[v] w (RsfPost N (seqX (flK 0 l)) w) := by
  obtain ⟨vA, vc, rfl⟩ := ksat_len h
  have HC := hide (fun o => rkidsf_any 0 _ l w (w.alloc o) h hx hz (bl_alloc (bl_refl w) o) hfx)
  unfold RsfPost
  unfold KpfPost at HC
  clear h hx hz hfx
  have HNN := hide hN
  clear hN
  go_enter Tryz.func42, Tryz.ntmps42
  go_wp2_with fail
  refine (HC.out _).mono ?_
  rintro e w2 ⟨v', L, rfl, hb2, hks, hfv, hrl, hel⟩
  obtain ⟨A, c, rfl⟩ := ksat_len hks
  have z0 : w2.cell? ⟨w.heap.size, 0, none⟩ = some (.int .i64 0) := cell_later hb2 (cells_lit w _ _ 0 _ rfl)
  have z1 : w2.cell? ⟨w.heap.size, 1, none⟩ = some (.string ⟨#[]⟩) := cell_later hb2 (cells_lit w _ _ 1 _ rfl)
  have z2 : w2.cell? ⟨w.heap.size, 2, none⟩ = some (.bool false) := cell_later hb2 (cells_lit w _ _ 2 _ rfl)
  have z3 : w2.cell? ⟨w.heap.size, 3, none⟩ = some (.slice none 0 0) := cell_later hb2 (cells_lit w _ _ 3 _ rfl)
  have z4 : w2.cell? ⟨w.heap.size, 4, none⟩ = some (.int .i64 0) := cell_later hb2 (cells_lit w _ _ 4 _ rfl)
  have z5 : w2.cell? ⟨w.heap.size, 5, none⟩ = some (.int .i64 0) := cell_later hb2 (cells_lit w _ _ 5 _ rfl)
  have z6 : w2.cell? ⟨w.heap.size, 6, none⟩ = some (.bool false) := cell_later hb2 (cells_lit w _ _ 6 _ rfl)
  have z7 : w2.cell? ⟨w.heap.size, 7, none⟩ = some (.slice none 0 0) := cell_later hb2 (cells_lit w _ _ 7 _ rfl)
  have hf1 : ∀ o, w2.frozen? ⟨w.heap.size, o, none⟩ = false := fun o => (hb2.frozen (p := ⟨w.heap.size, o, none⟩) (by simp)).trans (by go_simp)
  have HB2 := hide (bl_trans (bl_alloc (bl_refl w) _) hb2)
  have hn : w.heap.size + 1 ≤ (w.alloc (.cells #[.int .i64 0, .string ⟨#[]⟩, .bool false, .slice none 0 0, .int .i64 0, .int .i64 0, .bool false, .slice none 0 0] 25)).heap.size := by simp
  have HKS := hide hks
  have HFV := hide (hfv.mono hn)
  have HFL := hide (fun x hx => off_new (hrl x hx).1 (Nat.le_refl _))
  have HRL := hide (fun x hx => rx_below (hrl x hx).1 HB2.out)
  have HEL := hide hel
  have HFN := hide (fun x hx => (hrl x hx).2)
  have hsz : w.heap.size < w2.heap.size := by have := hb2.size; simp at this; omega
  have hlen : L.length = (flK 0 l).length := by rw [← hel, List.length_map]
  clear hb2 hks hfv hrl hel hn
  by_cases hl1 : L.length = 1
  · have g1 : ((L.length : Int) == 1) = true := beq_iff_eq.2 (by omega)
    have HX := hide (show seqX (flK 0 l) = (flK 0 l).headD (kdX 0 []) from if_pos (by omega))
    obtain ⟨b1, o1, c1', hv1, hc1, hm1, hlb1, hcell1⟩ := ksat_8 HKS.out (by omega)
    injection hv1 with hv1 _ hv1c
    subst hv1 hv1c
    unfold maxLen at hm1
    obtain ⟨q0, q1, q2, q3, q4, q5, q6, q7⟩ := hcell1 0 (by omega)
    have hmem : L[0] ∈ L := List.getElem_mem _
    have hxp := HRL.out _ hmem
    have hfp := HFL.out _ hmem
    have hfn := HFN.out _ hmem
    have hE : er L[0] = (flK 0 l).headD (kdX 0 []) := by
      have := HEL.out
      rw [← this]
      cases L with
      | nil => simp at hl1
      | cons a r => rfl
    obtain ⟨p, hp⟩ : ∃ p, L[0] = p := ⟨_, rfl⟩
    rw [hp] at q0 q1 q2 q3 q4 q5 q6 q7 hxp hfp hE hfn
    obtain ⟨pA, pc, hprv⟩ := rwat_len hxp.rows
    obtain ⟨pB, pd, hpkv⟩ := ksat_len hxp.ks
    have hv : p.v = .agg #[.int .i64 p.k, .string p.ch, .bool p.nt, .slice pA p.rows.length pc, .int .i64 p.mi, .int .i64 p.ma, .bool p.lz, .slice pB p.kids.length pd] := by unfold Rt.v Rt.cs; rw [hprv, hpkv]
    rw [hprv] at q3
    rw [hpkv] at q7
    simp only [Nat.zero_mul, Nat.add_zero] at q0 q1 q2 q3 q4 q5 q6 q7
    have HXP := hide hxp
    have HFP := hide hfp
    have HFNP := hide hfn
    have HE := hide hE
    have HV := hide hv
    have i2 : (0 : Int) < (L.length : Int) := by omega
    clear hxp hfp hfn hE hprv hpkv hp hmem hcell1 hv hlen
    go_wp2
    refine bodyPost_ret (v := .agg #[.int .i64 p.k, .string p.ch, .bool p.nt, .slice pA p.rows.length pc, .int .i64 p.mi, .int .i64 p.ma, .bool p.lz, .slice pB p.kids.length pd]) ?_ rfl ⟨p, by rw [HV.out], ?_, ?_, ?_, ?_⟩
    · rw [results_cell1 rfl]
      go_simp
    · exact bl8 HB2.out (Nat.le_refl _) _ _ _ _ _ _ _ _ _ _ _ _ _ _ _ _
    · exact rx_off HXP.out HFP.out (grown8 _ _ _ _ _ _ _ _ _ _ _ _ _ _ _ _ _)
    · rw [HE.out, HX.out]
    · exact HFNP.out
  · have g1 : ((L.length : Int) == 1) = false := beq_eq_false_iff_ne.2 (by omega)
    have HX := hide (show seqX (flK 0 l) = kdX 0 (flK 0 l) from if_neg (by omega))
    clear hlen
    go_wp2
    refine bodyPost_ret (v := .agg #[.int .i64 0, .string ⟨#[]⟩, .bool false, .slice none 0 0, .int .i64 0, .int .i64 0, .bool false, .slice A L.length c]) ?_ rfl ⟨Rt.mk 0 ⟨#[]⟩ false (.slice none 0 0) [] 0 0 false (.slice A L.length c) L, rfl, ?_, ?_, ?_, ?_⟩
    · rw [results_cell1 rfl]
      go_simp
    · exact bl8 HB2.out (Nat.le_refl _) _ _ _ _ _ _ _ _ _ _ _ _ _ _ _ _
    · exact .mk _ (.inl ⟨rfl, rfl⟩) (ksat_kept HKS.out HFV.out (kept8 _ (Nat.lt_succ_self _) _ _ _ _ _ _ _ _ _ _ _ _ _ _ _ _)) (fun i hi => rx_off (HRL.out _ (List.getElem_mem hi)) (HFL.out _ (List.getElem_mem hi)) (grown8 _ _ _ _ _ _ _ _ _ _ _ _ _ _ _ _ _))
    · rw [HX.out, er_eq]
      show kdX 0 (L.map er) = _
      rw [HEL.out]
    · exact .mk _ (frv_nil _) (HFV.out.mono (Nat.le_trans HNN.out (Nat.le_succ _))) (fun x hx => HFN.out x hx)
set_option maxHeartbeats 16000000 in
theorem raltf_any {N : Nat} (v : Value) (l : List Rt) (w : World) (h : KsAt w v l) (hx : ∀ i (hi : i < l.length), RxAt w l[i]) (hz : sL l ≤ 100000) (hfx : ∀ i (hi : i < l.length), Fr N l[i]) (hN : N ≤ w.heap.size) :
    Calls Tryz.prog 44 #[v] w (RsfPost N (altX (flK 1 l)) w) := by
  obtain ⟨vA, vc, rfl⟩ := ksat_len h
  have HC := hide (fun o => rkidsf_any 1 _ l w (w.alloc o) h hx hz (bl_alloc (bl_refl w) o) hfx)
  unfold RsfPost
  unfold KpfPost at HC
  clear h hx hz hfx
  have HNN := hide hN
  clear hN
  go_enter Tryz.func44, Tryz.ntmps44
  go_wp2_with fail
  refine (HC.out _).mono ?_
  rintro e w2 ⟨v', L, rfl, hb2, hks, hfv, hrl, hel⟩
  obtain ⟨A, c, rfl⟩ := ksat_len hks
  have z0 : w2.cell? ⟨w.heap.size, 0, none⟩ = some (.int .i64 0) := cell_later hb2 (cells_lit w _ _ 0 _ rfl)
  have z1 : w2.cell? ⟨w.heap.size, 1, none⟩ = some (.string ⟨#[]⟩) := cell_later hb2 (cells_lit w _ _ 1 _ rfl)
  have z2 : w2.cell? ⟨w.heap.size, 2, none⟩ = some (.bool false) := cell_later hb2 (cells_lit w _ _ 2 _ rfl)
  have z3 : w2.cell? ⟨w.heap.size, 3, none⟩ = some (.slice none 0 0) := cell_later hb2 (cells_lit w _ _ 3 _ rfl)
  have z4 : w2.cell? ⟨w.heap.size, 4, none⟩ = some (.int .i64 0) := cell_later hb2 (cells_lit w _ _ 4 _ rfl)
  have z5 : w2.cell? ⟨w.heap.size, 5, none⟩ = some (.int .i64 0) := cell_later hb2 (cells_lit w _ _ 5 _ rfl)
  have z6 : w2.cell? ⟨w.heap.size, 6, none⟩ = some (.bool false) := cell_later hb2 (cells_lit w _ _ 6 _ rfl)
  have z7 : w2.cell? ⟨w.heap.size, 7, none⟩ = some (.slice none 0 0) := cell_later hb2 (cells_lit w _ _ 7 _ rfl)
  have hf1 : ∀ o, w2.frozen? ⟨w.heap.size, o, none⟩ = false := fun o => (hb2.frozen (p := ⟨w.heap.size, o, none⟩) (by simp)).trans (by go_simp)
  have HB2 := hide (bl_trans (bl_alloc (bl_refl w) _) hb2)
  have hn : w.heap.size + 1 ≤ (w.alloc (.cells #[.int .i64 0, .string ⟨#[]⟩, .bool false, .slice none 0 0, .int .i64 0, .int .i64 0, .bool false, .slice none 0 0] 25)).heap.size := by simp
  have HKS := hide hks
  have HFV := hide (hfv.mono hn)
  have HFL := hide (fun x hx => off_new (hrl x hx).1 (Nat.le_refl _))
  have HRL := hide (fun x hx => rx_below (hrl x hx).1 HB2.out)
  have HEL := hide hel
  have HFN := hide (fun x hx => (hrl x hx).2)
  have hsz : w.heap.size < w2.heap.size := by have := hb2.size; simp at this; omega
  have hlen : L.length = (flK 1 l).length := by rw [← hel, List.length_map]
  clear hb2 hks hfv hrl hel hn
  by_cases hl0 : L.length = 0
  · have g0 : ((L.length : Int) == 0) = true := beq_iff_eq.2 (by omega)
    have HX := hide (show altX (flK 1 l) = kdX 0 [] from if_pos (by omega))
    clear hlen
    go_wp2
    refine bodyPost_ret (v := .agg #[.int .i64 0, .string ⟨#[]⟩, .bool false, .slice none 0 0, .int .i64 0, .int .i64 0, .bool false, .slice none 0 0]) ?_ rfl ⟨Rt.mk 0 ⟨#[]⟩ false (.slice none 0 0) [] 0 0 false (.slice none 0 0) [], rfl, ?_, ?_, ?_, ?_⟩
    · rw [results_cell1 rfl]
      go_simp
    · exact bl8 HB2.out (Nat.le_refl _) _ _ _ _ _ _ _ _ _ _ _ _ _ _ _ _
    · exact .mk _ (.inl ⟨rfl, rfl⟩) (.inl ⟨rfl, rfl⟩) (fun i hi => absurd hi (Nat.not_lt_zero _))
    · rw [HX.out, er_eq]; rfl
    · exact .mk _ (frv_nil _) (frv_nil _) (fun x hx => by cases hx)
  have g0 : ((L.length : Int) == 0) = false := beq_eq_false_iff_ne.2 (by omega)
  by_cases hl1 : L.length = 1
  · have g1 : ((L.length : Int) == 1) = true := beq_iff_eq.2 (by omega)
    have HX := hide (show altX (flK 1 l) = (flK 1 l).headD (kdX 0 []) from (if_neg (by omega)).trans (if_pos (by omega)))
    obtain ⟨b1, o1, c1', hv1, hc1, hm1, hlb1, hcell1⟩ := ksat_8 HKS.out (by omega)
    injection hv1 with hv1 _ hv1c
    subst hv1 hv1c
    unfold maxLen at hm1
    obtain ⟨q0, q1, q2, q3, q4, q5, q6, q7⟩ := hcell1 0 (by omega)
    have hmem : L[0] ∈ L := List.getElem_mem _
    have hxp := HRL.out _ hmem
    have hfp := HFL.out _ hmem
    have hfn := HFN.out _ hmem
    have hE : er L[0] = (flK 1 l).headD (kdX 0 []) := by
      have := HEL.out
      rw [← this]
      cases L with
      | nil => simp at hl1
      | cons a r => rfl
    obtain ⟨p, hp⟩ : ∃ p, L[0] = p := ⟨_, rfl⟩
    rw [hp] at q0 q1 q2 q3 q4 q5 q6 q7 hxp hfp hE hfn
    obtain ⟨pA, pc, hprv⟩ := rwat_len hxp.rows
    obtain ⟨pB, pd, hpkv⟩ := ksat_len hxp.ks
    have hv : p.v = .agg #[.int .i64 p.k, .string p.ch, .bool p.nt, .slice pA p.rows.length pc, .int .i64 p.mi, .int .i64 p.ma, .bool p.lz, .slice pB p.kids.length pd] := by unfold Rt.v Rt.cs; rw [hprv, hpkv]
    rw [hprv] at q3
    rw [hpkv] at q7
    simp only [Nat.zero_mul, Nat.add_zero] at q0 q1 q2 q3 q4 q5 q6 q7
    have HXP := hide hxp
    have HFP := hide hfp
    have HFNP := hide hfn
    have HE := hide hE
    have HV := hide hv
    have i2 : (0 : Int) < (L.length : Int) := by omega
    clear hxp hfp hfn hE hprv hpkv hp hmem hcell1 hv hlen
    go_wp2
    refine bodyPost_ret (v := .agg #[.int .i64 p.k, .string p.ch, .bool p.nt, .slice pA p.rows.length pc, .int .i64 p.mi, .int .i64 p.ma, .bool p.lz, .slice pB p.kids.length pd]) ?_ rfl ⟨p, by rw [HV.out], ?_, ?_, ?_, ?_⟩
    · rw [results_cell1 rfl]
      go_simp
    · exact bl8 HB2.out (Nat.le_refl _) _ _ _ _ _ _ _ _ _ _ _ _ _ _ _ _
    · exact rx_off HXP.out HFP.out (grown8 _ _ _ _ _ _ _ _ _ _ _ _ _ _ _ _ _)
    · rw [HE.out, HX.out]
    · exact HFNP.out
  · have g1 : ((L.length : Int) == 1) = false := beq_eq_false_iff_ne.2 (by omega)
    have HX := hide (show altX (flK 1 l) = kdX 1 (flK 1 l) from (if_neg (by omega)).trans (if_neg (by omega)))
    clear hlen
    go_wp2
    refine bodyPost_ret (v := .agg #[.int .i64 1, .string ⟨#[]⟩, .bool false, .slice none 0 0, .int .i64 0, .int .i64 0, .bool false, .slice A L.length c]) ?_ rfl ⟨Rt.mk 1 ⟨#[]⟩ false (.slice none 0 0) [] 0 0 false (.slice A L.length c) L, rfl, ?_, ?_, ?_, ?_⟩
    · rw [results_cell1 rfl]
      go_simp
    · exact bl8 HB2.out (Nat.le_refl _) _ _ _ _ _ _ _ _ _ _ _ _ _ _ _ _
    · exact .mk _ (.inl ⟨rfl, rfl⟩) (ksat_kept HKS.out HFV.out (kept8 _ (Nat.lt_succ_self _) _ _ _ _ _ _ _ _ _ _ _ _ _ _ _ _)) (fun i hi => rx_off (HRL.out _ (List.getElem_mem hi)) (HFL.out _ (List.getElem_mem hi)) (grown8 _ _ _ _ _ _ _ _ _ _ _ _ _ _ _ _ _))
    · rw [HX.out, er_eq]
      show kdX 1 (L.map er) = _
      rw [HEL.out]
    · exact .mk _ (frv_nil _) (HFV.out.mono (Nat.le_trans HNN.out (Nat.le_succ _))) (fun x hx => HFN.out x hx)
end
section
open Go.ChangeShapes Go.WideShapes Go.ChangeAt Go.RowKit
open SetM
attribute [local go_sem ↓] Go.wp_at_zero Go.wp_at_succ
set_option maxRecDepth 100000
set_option linter.unusedVariables false
attribute [local go_sem] later_cell later_frozen
theorem split_len : ∀ (n : Nat) (l : List UInt8), l.length < n → (splitL l).length ≤ l.length ∧ ∀ z ∈ splitL l, z.length ≤ l.length
  | 0, l, h => absurd h (Nat.not_lt_zero _)
  | n + 1, l, h => by
    by_cases h0 : l = []
    · subst h0; exact ⟨Nat.le_refl _, fun z hz => by cases hz⟩
    · have h1 := tl_len l h0
      obtain ⟨h2, h3⟩ := split_len n (tlC l) (by omega)
      rw [split_cons h0]
      refine ⟨by rw [List.length_cons]; omega, fun z hz => ?_⟩
      rcases List.mem_cons.1 hz with rfl | hz
      · rw [hdC_len]; exact firstN_le l
      · have := h3 z hz; omega
theorem rp_new {s : ByteArray} {base : Nat} {W : World} {A : Option Addr} {c : Nat} {zs : List ByteArray} (hs : s.size ≤ 256) (hown : W.ownsRow base 9 1 (.slice A zs.length c) zs.length (zs.map .string)) (hz : zs.map (fun z => z.data.toList) = splitL s.data.toList) :
    Rp (W.alloc (.cells #[.slice A zs.length c, .int .i64 0] 67)) W.heap.size A c zs s.data.toList := by
  have hl : s.data.toList.length = s.size := Array.length_toList
  obtain ⟨l1, l2⟩ := split_len _ s.data.toList (Nat.lt_succ_self _)
  have hzl : zs.length = (splitL s.data.toList).length := by rw [← hz, List.length_map]
  refine ⟨by go_simp, ?_, by go_simp, fun k hk => ?_, by rw [hz]; exact List.suffix_refl _, by omega, fun z hzm => ?_⟩
  · rw [hzl, Nat.sub_self]; go_simp
  · rcases own_form hown with ⟨_, h1, _⟩ | ⟨g, c', hv, h2, h3, h4, h5, hc⟩
    · omega
    · injection hv with hv _ _
      have h6 := hc k (.string zs[k]) (by simp [hk])
      refine ⟨g, hv, ?_, ?_⟩
      · have := World.block_lt_of_cell? _ _ h6
        exact Nat.ne_of_lt this
      · exact alloc_blk h6
  · have := l2 z.data.toList (by rw [← hz]; exact List.mem_map.2 ⟨z, hzm, rfl⟩)
    rw [show z.data.toList.length = z.size from Array.length_toList] at this
    omega
theorem mvd_below {w w1 w2 : World} {g k : Nat} (hb : Below w.heap.size w w1) (h : Mvd w1 w2 g 0 k) (hg : w.heap.size ≤ g) : Below w.heap.size w w2 :=
  bl_grown hb h.grown (fun k hk => by injection hk with hk; omega)
end
end Go.Proofs.YtcnliipkfccohabGreat
end
section
namespace Go.Proofs.YtcnliipkfccohabGreat
open Go.ChangeShapes Go.WideShapes Go.ChangeAt Go.RowKit
open SetM
attribute [local go_sem ↓] Go.wp_at_zero Go.wp_at_succ
set_option maxRecDepth 100000
set_option linter.unusedVariables false
attribute [local go_sem] later_cell later_frozen
def RkPost (N : Nat) (w : World) (b : Nat) (zs : List ByteArray) (x : Rt) (r : List UInt8) (e : Ending) (w' : World) : Prop :=
  ∃ t, e = .returned (.tuple #[t.v, .int .i64 0]) ∧ Rv w w' b zs r ∧ RxAt w' t ∧ Fr N t ∧ er t = x
theorem cl_next (W : World) (cs : List Value) (T : TypeId) (n : Nat) (h : W.heap.size = n) : Cl (W.alloc (.cells cs.toArray T)) n cs := h ▸ cl_alloc W cs T
theorem rk_one {N : Nat} {w W u : World} {b g : Nat} {zs : List ByteArray} {r : List UInt8} {t : Rt} {k mi ma : Int} {lz : Bool} (hm : Rv w W b zs r) (hk : Kept N u W) (ht : RxAt u t) (hf : Fr N t) (hg : N ≤ g) (M : Nat) (hM : M ≤ N) (hc : ∀ j u, t.cs[j]? = some u → W.cell? ⟨g, j, none⟩ = some u) :
    RkPost M w b zs (.mk k ⟨#[]⟩ false (.slice none 0 0) [] mi ma lz (.slice none 0 0) [er t]) r (.returned (.tuple #[.agg #[.int .i64 k, .string ⟨#[]⟩, .bool false, .slice none 0 0, .int .i64 mi, .int .i64 ma, .bool lz, .slice (some ⟨g, 0, none⟩) 1 1], .int .i64 0])) W := by
  refine ⟨.mk k ⟨#[]⟩ false (.slice none 0 0) [] mi ma lz (.slice (some ⟨g, 0, none⟩) 1 1) [t], rfl, hm, .mk _ (.inl ⟨rfl, rfl⟩) (ks1 hc) (fun i hi => ?_), .mk _ (frv0 _) (fun x len c e => ?_) (fun x hx => ?_), ?_⟩
  · have : i = 0 := by have : i < 1 := hi; omega
    subst this
    exact rx_kept ht hf hk
  · injection e with e; injection e with e; subst e; exact Nat.le_trans hM hg
  · have : x = t := by simpa using (show x ∈ [t] from hx)
    subst this; exact hf.mono hM
  · rw [er_eq]; rfl
set_option maxHeartbeats 8000000 in
theorem mk_char {w : World} {b : Nat} {A : Option Addr} {c : Nat} {zs : List ByteArray} {l : List UInt8} (h : Rp w b A c zs l) (y : UInt8) (hy : hdC l = [y]) (hs : ∀ z ∈ ([46, 40, 91, 92, 42, 43, 63, 41, 123, 124] : List UInt8), (([y] : List UInt8) == [z]) = false) (hp : properB [y] = true) (d : Int) :
    Calls Tryz.prog 67 #[.pointer (some ⟨b, 0, none⟩), .int .i64 d] w (RkPost w.heap.size w b zs (chX ⟨#[y]⟩) (tlC l)) := by
  have hbw := h.lt
  have HS := hide h
  have HNB := hide (show w.heap.size ≠ b by omega)
  have HP0 := hide (h.bl (bl_alloc (bl_refl w) (.cells #[.int .i64 0, .string ⟨#[]⟩, .bool false, .slice none 0 0, .int .i64 0, .int .i64 0, .bool false, .slice none 0 0] 25)))
  have HSELF := hide (HS.out.self (bl_alloc (bl_refl w) (.cells #[.int .i64 0, .string ⟨#[]⟩, .bool false, .slice none 0 0, .int .i64 0, .int .i64 0, .bool false, .slice none 0 0] 25)))
  have Z0 := hide (show Cl (w.alloc (.cells #[.int .i64 0, .string ⟨#[]⟩, .bool false, .slice none 0 0, .int .i64 0, .int .i64 0, .bool false, .slice none 0 0] 25)) w.heap.size [.int .i64 0, .string ⟨#[]⟩, .bool false, .slice none 0 0, .int .i64 0, .int .i64 0, .bool false, .slice none 0 0] from cl_alloc w [.int .i64 0, .string ⟨#[]⟩, .bool false, .slice none 0 0, .int .i64 0, .int .i64 0, .bool false, .slice none 0 0] _)
  have hl0 : l ≠ [] := by rintro rfl; cases hy
  obtain ⟨r1, hr1⟩ : ∃ r1, tlC l = r1 := ⟨_, rfl⟩
  rw [hr1]
  have HT0 := hide (fun W (hp : Rp W b A c zs l) => rr_take hp ⟨#[46]⟩ (by decide) false (by rw [hy]; exact hs 46 (by decide)))
  have HT1 := hide (fun W (hp : Rp W b A c zs l) => rr_take hp ⟨#[40]⟩ (by decide) false (by rw [hy]; exact hs 40 (by decide)))
  have HT2 := hide (fun W (hp : Rp W b A c zs l) => rr_take hp ⟨#[91]⟩ (by decide) false (by rw [hy]; exact hs 91 (by decide)))
  have HT3 := hide (fun W (hp : Rp W b A c zs l) => rr_take hp ⟨#[92]⟩ (by decide) false (by rw [hy]; exact hs 92 (by decide)))
  obtain ⟨C, hC⟩ : ∃ C : ByteArray, C = ⟨#[y]⟩ := ⟨_, rfl⟩
  have hCd : C.data.toList = [y] := by rw [hC]
  have hbC : bsC (hdC l) = C := by rw [hy, hC]; rfl
  obtain ⟨k, hk⟩ : ∃ k, zs.length - (splitL l).length = k := ⟨_, rfl⟩
  have hk1000 : k ≤ 1000 := by have := HS.out.sz; omega
  have ew1 : IntKind.i64.wrap ((k : Int) + 1) = (k : Int) + 1 := by rw [IntKind.wrap_i64]; omega
  have HST := hide (fun W W2 (hp : Rp W b A c zs l) (hb : Below W.heap.size W W2) => rr_step hp hl0 hb k hk)
  have HSE := hide (fun W (hp : Rp W b A c zs l) => rr_see_at hp (bl_refl W) C hbC k hk)
  have HPRO := hide (fun W => rproper_any C true W (by rw [hC]; exact Nat.le_trans (show (⟨#[y]⟩ : ByteArray).size ≤ 1 from Nat.le_refl _) (by decide)) (by rw [hCd]; exact hp))
  have HC := hide hC
  obtain ⟨y0, v0⟩ := lit_eq C #[42] false (by rw [hCd]; exact hs 42 (by decide))
  obtain ⟨y1, v1⟩ := lit_eq C #[43] false (by rw [hCd]; exact hs 43 (by decide))
  obtain ⟨y2, v2⟩ := lit_eq C #[63] false (by rw [hCd]; exact hs 63 (by decide))
  obtain ⟨y3, v3⟩ := lit_eq C #[41] false (by rw [hCd]; exact hs 41 (by decide))
  obtain ⟨y4, v4⟩ := lit_eq C #[123] false (by rw [hCd]; exact hs 123 (by decide))
  obtain ⟨y5, v5⟩ := lit_eq C #[124] false (by rw [hCd]; exact hs 124 (by decide))
  clear hk hk1000 hCd hC hbC hp hs hy hl0 h
  go_enter Tryz.func67, Tryz.ntmps67
  go_wp2_with fail
  refine (HT0.out _ HP0.out).mono ?_
  rintro e u0 ⟨rfl, hm⟩
  have N0 : Hid (Rv (w.alloc (.cells #[.int .i64 0, .string ⟨#[]⟩, .bool false, .slice none 0 0, .int .i64 0, .int .i64 0, .bool false, .slice none 0 0] 25)) u0 b zs l) := hide (hm)
  clear hm
  go_wp2_with fail
  refine (HT1.out _ (N0.out.pl HP0.out)).mono ?_
  rintro e u1 ⟨rfl, hm⟩
  have N1 : Hid (Rv (w.alloc (.cells #[.int .i64 0, .string ⟨#[]⟩, .bool false, .slice none 0 0, .int .i64 0, .int .i64 0, .bool false, .slice none 0 0] 25)) u1 b zs l) := hide (N0.out.trans hm)
  clear hm
  go_wp2_with fail
  refine (HT2.out _ (N1.out.pl HP0.out)).mono ?_
  rintro e u2 ⟨rfl, hm⟩
  have N2 : Hid (Rv (w.alloc (.cells #[.int .i64 0, .string ⟨#[]⟩, .bool false, .slice none 0 0, .int .i64 0, .int .i64 0, .bool false, .slice none 0 0] 25)) u2 b zs l) := hide (N1.out.trans hm)
  clear hm
  go_wp2_with fail
  refine (HT3.out _ (N2.out.pl HP0.out)).mono ?_
  rintro e u3 ⟨rfl, hm⟩
  have N3 : Hid (Rv (w.alloc (.cells #[.int .i64 0, .string ⟨#[]⟩, .bool false, .slice none 0 0, .int .i64 0, .int .i64 0, .bool false, .slice none 0 0] 25)) u3 b zs l) := hide (N2.out.trans hm)
  clear hm
  go_wp2_with fail
  refine (HSE.out _ (N3.out.pl HP0.out)).mono ?_
  rintro e w2 ⟨rfl, hb2, c2, f2⟩
  have M2 : Hid (Rv (w.alloc (.cells #[.int .i64 0, .string ⟨#[]⟩, .bool false, .slice none 0 0, .int .i64 0, .int .i64 0, .bool false, .slice none 0 0] 25)) w2 b zs l) := hide (N3.out.bl hb2)
  have Z2 := hide (Z0.out.mv M2.out.1 HNB.out)
  have M2w := hide (HSELF.out.trans M2.out)
  go_wp2_with fail
  refine (HPRO.out _).mono ?_
  rintro e w3 ⟨rfl, hb3⟩
  have c3 := cell_later hb3 c2
  have f3 := (hb3.frozen (p := ⟨b, 1, none⟩) (World.block_lt_of_cell? _ _ c2)).trans f2
  have M3 := hide ((M2w.out.bl (bl_refl _)).trans (hr1 ▸ HST.out _ _ (M2.out.pl HP0.out) hb3))
  have Z3 := hide (Z2.out.bl hb3)
  clear hb2 hb3 c2 f2 hr1
  obtain ⟨z0, z1, z2, z3, z4, z5, z6, z7⟩ := (Z3.out).eight
  have hf1 := (Z3.out).f
  go_wp2
  refine bodyPost_ret (v := .tuple #[.agg #[.int .i64 2, .string C, .bool false, .slice none 0 0, .int .i64 0, .int .i64 0, .bool false, .slice none 0 0], .int .i64 0]) ?_ rfl ⟨chX C, rfl, (rv8 (M3.out) HNB.out (Nat.le_refl _) _ _ _ _ _ _ _ _ _ _ _ _ _ _ _ _), rx_leaf _ _ rfl rfl rfl rfl, fr_leaf _ _ rfl rfl rfl, by rw [← HC.out]; rfl⟩
  rw [results_cell2 rfl]
  go_simp
set_option maxHeartbeats 16000000 in
theorem mk_group {w : World} {b : Nat} {A : Option Addr} {c : Nat} {zs : List ByteArray} {l : List UInt8} (h : Rp w b A c zs l) (hy : hdC l = [40]) (h63 : (hdC (tlC l) == [63]) = false) (d : Nat) (hd : d < 16) (x : Rt) (r8 : List UInt8) (h41 : (hdC r8 == [41]) = true)
    (HPAT : ∀ W, Rp W b A c zs (tlC l) → Calls Tryz.prog 25 #[.pointer (some ⟨b, 0, none⟩), .int .i64 ((d : Int) + 1)] W (RkPost W.heap.size W b zs x r8)) :
    Calls Tryz.prog 67 #[.pointer (some ⟨b, 0, none⟩), .int .i64 (d : Int)] w (RkPost w.heap.size w b zs (.mk 5 ⟨#[]⟩ false (.slice none 0 0) [] 0 0 false (.slice none 0 0) [x]) (tlC r8)) := by
  have hbw := h.lt
  have HS := hide h
  have HNB := hide (show w.heap.size ≠ b by omega)
  have HP0 := hide (h.bl (bl_alloc (bl_refl w) (.cells #[.int .i64 0, .string ⟨#[]⟩, .bool false, .slice none 0 0, .int .i64 0, .int .i64 0, .bool false, .slice none 0 0] 25)))
  have HSELF := hide (HS.out.self (bl_alloc (bl_refl w) (.cells #[.int .i64 0, .string ⟨#[]⟩, .bool false, .slice none 0 0, .int .i64 0, .int .i64 0, .bool false, .slice none 0 0] 25)))
  have Z0 := hide (show Cl (w.alloc (.cells #[.int .i64 0, .string ⟨#[]⟩, .bool false, .slice none 0 0, .int .i64 0, .int .i64 0, .bool false, .slice none 0 0] 25)) w.heap.size [.int .i64 0, .string ⟨#[]⟩, .bool false, .slice none 0 0, .int .i64 0, .int .i64 0, .bool false, .slice none 0 0] from cl_alloc w [.int .i64 0, .string ⟨#[]⟩, .bool false, .slice none 0 0, .int .i64 0, .int .i64 0, .bool false, .slice none 0 0] _)
  obtain ⟨r1, hr1⟩ : ∃ r1, tlC l = r1 := ⟨_, rfl⟩
  rw [hr1] at h63 HPAT
  have gd : decide ((16 : Int) ≤ (d : Int)) = false := decide_eq_false (by omega)
  have gd' : decide (16 ≤ d) = false := decide_eq_false (by omega)
  have ew1 : IntKind.i64.wrap ((d : Int) + 1) = (d : Int) + 1 := by rw [IntKind.wrap_i64]; omega
  have HT0 := hide (fun W (hp : Rp W b A c zs l) => rr_take hp ⟨#[46]⟩ (by decide) false (by rw [hy]; decide))
  have HTT : Hid (∀ W, Rp W b A c zs l → Calls Tryz.prog 43 #[.pointer (some ⟨b, 0, none⟩), .string ⟨#[40]⟩] W fun e w' => e = .returned (.bool true) ∧ Rv W w' b zs r1) := hide (fun W hp => by rw [← hr1]; exact rr_take hp ⟨#[40]⟩ (by decide) true (by rw [hy]; decide))
  have HT5 := hide (fun W (hp : Rp W b A c zs r1) => rr_take hp ⟨#[63]⟩ (by decide) false h63)
  have HT7 : Hid (∀ W, Rp W b A c zs r8 → Calls Tryz.prog 43 #[.pointer (some ⟨b, 0, none⟩), .string ⟨#[41]⟩] W fun e w' => e = .returned (.bool true) ∧ Rv W w' b zs (tlC r8)) := hide (fun W hp => rr_take hp ⟨#[41]⟩ (by decide) true h41)
  have HPC := hide HPAT
  clear h hbw hy h63 h41 HPAT hr1 hd
  go_enter Tryz.func67, Tryz.ntmps67
  go_wp2_with fail
  refine (HT0.out _ HP0.out).mono ?_
  rintro e u0 ⟨rfl, hm⟩
  have N0 : Hid (Rv (w.alloc (.cells #[.int .i64 0, .string ⟨#[]⟩, .bool false, .slice none 0 0, .int .i64 0, .int .i64 0, .bool false, .slice none 0 0] 25)) u0 b zs l) := hide hm
  clear hm
  go_wp2_with fail
  refine (HTT.out _ (N0.out.pl HP0.out)).mono ?_
  rintro e w2 ⟨rfl, hm⟩
  have M2 : Hid (Rv (w.alloc (.cells #[.int .i64 0, .string ⟨#[]⟩, .bool false, .slice none 0 0, .int .i64 0, .int .i64 0, .bool false, .slice none 0 0] 25)) w2 b zs r1) := hide (N0.out.trans hm)
  clear hm
  have Z2 := hide (Z0.out.mv M2.out.1 HNB.out)
  have M2w := hide (HSELF.out.trans M2.out)
  have Z3 := hide (Z2.out.bl (bl_alloc (bl_refl _) (.cells #[.int .i64 5, .string ⟨#[]⟩, .bool false, .slice none 0 0, .int .i64 0, .int .i64 0, .bool false, .slice none 0 0] 25)))
  have X3 := hide (show Cl (w2.alloc (.cells #[.int .i64 5, .string ⟨#[]⟩, .bool false, .slice none 0 0, .int .i64 0, .int .i64 0, .bool false, .slice none 0 0] 25)) w2.heap.size [.int .i64 5, .string ⟨#[]⟩, .bool false, .slice none 0 0, .int .i64 0, .int .i64 0, .bool false, .slice none 0 0] from cl_alloc w2 [.int .i64 5, .string ⟨#[]⟩, .bool false, .slice none 0 0, .int .i64 0, .int .i64 0, .bool false, .slice none 0 0] _)
  have M3w := hide (M2w.out.bl (bl_alloc (bl_refl _) (.cells #[.int .i64 5, .string ⟨#[]⟩, .bool false, .slice none 0 0, .int .i64 0, .int .i64 0, .bool false, .slice none 0 0] 25)))
  have HXB := hide (show w2.heap.size ≠ b by have := HS.out.lt; have := M2w.out.1.grown.size; omega)
  have HWX := hide (show w.heap.size < w2.heap.size by have := M2.out.1.grown.size; simp at this; omega)
  have HZX := hide (show w.heap.size ≠ w2.heap.size by have := HWX.out; omega)
  go_wp2_with fail
  refine (HT5.out _ (M3w.out.pl HS.out)).mono ?_
  rintro e w5 ⟨rfl, hm5⟩
  have M5w := hide (M3w.out.trans hm5)
  have Z5 := hide (Z3.out.mv hm5.1 HNB.out)
  have X5 := hide (X3.out.mv hm5.1 HXB.out)
  clear hm5
  have HBP := hide (show b < w5.heap.size from M5w.out.1.lt)
  go_wp2_with fail
  refine (HPC.out _ (M5w.out.pl HS.out)).mono ?_
  rintro e w6 ⟨t, rfl, hm6, hrx, hfr, her⟩
  subst her
  obtain ⟨tA, tc, htrv⟩ := rwat_len hrx.rows
  obtain ⟨tB, td, htkv⟩ := ksat_len hrx.ks
  have HTV := hide (show t.v = .agg #[.int .i64 t.k, .string t.ch, .bool t.nt, .slice tA t.rows.length tc, .int .i64 t.mi, .int .i64 t.ma, .bool t.lz, .slice tB t.kids.length td] by unfold Rt.v Rt.cs; rw [htrv, htkv])
  have HCS := hide (show t.cs = [.int .i64 t.k, .string t.ch, .bool t.nt, .slice tA t.rows.length tc, .int .i64 t.mi, .int .i64 t.ma, .bool t.lz, .slice tB t.kids.length td] by unfold Rt.cs; rw [htrv, htkv])
  rw [HTV.out]
  have HRX := hide hrx
  have HFR := hide hfr
  have HSZ6 := hide hm6.1.grown.size
  have M6 := hide ((M5w.out.trans hm6).bl (bl_alloc (bl_refl w6) (.cells #[.int .i64 t.k, .string t.ch, .bool t.nt, .slice tA t.rows.length tc, .int .i64 t.mi, .int .i64 t.ma, .bool t.lz, .slice tB t.kids.length td] 25)))
  have Z6 := hide ((Z5.out.mv hm6.1 HNB.out).bl (bl_alloc (bl_refl w6) (.cells #[.int .i64 t.k, .string t.ch, .bool t.nt, .slice tA t.rows.length tc, .int .i64 t.mi, .int .i64 t.ma, .bool t.lz, .slice tB t.kids.length td] 25)))
  have X6 := hide ((X5.out.mv hm6.1 HXB.out).bl (bl_alloc (bl_refl w6) (.cells #[.int .i64 t.k, .string t.ch, .bool t.nt, .slice tA t.rows.length tc, .int .i64 t.mi, .int .i64 t.ma, .bool t.lz, .slice tB t.kids.length td] 25)))
  have K6 := hide (show Cl (w6.alloc (.cells #[.int .i64 t.k, .string t.ch, .bool t.nt, .slice tA t.rows.length tc, .int .i64 t.mi, .int .i64 t.ma, .bool t.lz, .slice tB t.kids.length td] 25)) w6.heap.size [.int .i64 t.k, .string t.ch, .bool t.nt, .slice tA t.rows.length tc, .int .i64 t.mi, .int .i64 t.ma, .bool t.lz, .slice tB t.kids.length td] from cl_alloc w6 [.int .i64 t.k, .string t.ch, .bool t.nt, .slice tA t.rows.length tc, .int .i64 t.mi, .int .i64 t.ma, .bool t.lz, .slice tB t.kids.length td] _)
  have HB6 := hide (show b < w6.heap.size from (M5w.out.trans hm6).1.lt)
  have HX5 := hide (show w2.heap.size < w5.heap.size from X5.out.s)
  have HX6 := hide (show w2.heap.size + 1 ≤ w6.heap.size from Nat.le_trans HX5.out hm6.1.grown.size)
  clear hm6 hrx hfr htrv htkv
  go_wp2_with fail
  refine (HT7.out _ (M6.out.pl HS.out)).mono ?_
  rintro e w8 ⟨rfl, hm8⟩
  have M8 := hide (M6.out.trans hm8)
  have Z8 := hide (Z6.out.mv hm8.1 HNB.out)
  have X8 := hide (X6.out.mv hm8.1 HXB.out)
  have K8 := hide (K6.out.mv hm8.1 (by have := HB6.out; omega))
  have HKK := hide (show Kept w5.heap.size w6 w8 from kept_trans (kept_below (bl_alloc (bl_refl w6) _)) (fun p v hp hc => hm8.1.cell hc (by have := HBP.out; omega)))
  have HS8 := hide (show w6.heap.size + 1 ≤ w8.heap.size by have := hm8.1.grown.size; simpa using this)
  clear hm8
  obtain ⟨k0, k1, k2, k3, k4, k5, k6, k7⟩ := K8.out.eight
  obtain ⟨x0, x1, x2, x3, x4, x5, x6, x7⟩ := (X8.out).eight
  have hf2 := (X8.out).f
  obtain ⟨z0, z1, z2, z3, z4, z5, z6, z7⟩ := (Z8.out).eight
  have hf1 := (Z8.out).f
  have HMF := hide ((rv8 (M8.out.put (g := w2.heap.size) HXB.out (Nat.le_of_lt HWX.out) 7 (.slice (some ⟨w8.heap.size, 0, none⟩) 1 1)) HNB.out (Nat.le_refl _) 0 (.int .i64 5) 1 (.string ⟨#[]⟩) 2 (.bool false) 3 (.slice none 0 0) 4 (.int .i64 0) 5 (.int .i64 0) 6 (.bool false) 7 (.slice (some ⟨w8.heap.size, 0, none⟩) 1 1)).bl (bl_alloc (bl_refl _) (.cells #[.int .i64 t.k, .string t.ch, .bool t.nt, .slice tA t.rows.length tc, .int .i64 t.mi, .int .i64 t.ma, .bool t.lz, .slice tB t.kids.length td] 25)))
  have HEND := hide (rk_one (N := w5.heap.size) (k := 5) (mi := 0) (ma := 0) (lz := false) (g := w8.heap.size) HMF.out (kept_trans HKK.out (kept_trans (kept_set _ HX5.out _) (kept_trans (kept8 _ (Nat.lt_trans HWX.out HX5.out) _ _ _ _ _ _ _ _ _ _ _ _ _ _ _ _) (kept_below (bl_alloc (bl_refl _) _))))) HRX.out HFR.out (Nat.le_trans HSZ6.out (Nat.le_trans (Nat.le_succ _) HS8.out)) w.heap.size (Nat.le_of_lt (Nat.lt_trans HWX.out HX5.out))
    (fun j u hu => ks_alloc (T := 25) (cs := [.int .i64 t.k, .string t.ch, .bool t.nt, .slice tA t.rows.length tc, .int .i64 t.mi, .int .i64 t.ma, .bool t.lz, .slice tB t.kids.length td]) (by simp) j u (by rw [← HCS.out]; exact hu)))
  have hne1 := HZX.out
  have hne2 : w2.heap.size ≠ w.heap.size := fun e => hne1 e.symm
  have hx8 := X8.out.s
  have hx9 := Z8.out.s
  go_wp2
  refine bodyPost_ret (v := .tuple #[.agg #[.int .i64 5, .string ⟨#[]⟩, .bool false, .slice none 0 0, .int .i64 0, .int .i64 0, .bool false, .slice (some ⟨w8.heap.size, 0, none⟩) 1 1], .int .i64 0]) ?_ rfl HEND.out
  rw [results_cell2 rfl]
  go_simp
set_option maxHeartbeats 16000000 in
theorem mk_times_no {w : World} {b N : Nat} {A : Option Addr} {c : Nat} {zs : List ByteArray} {l : List UInt8} (h : Rp w b A c zs l) (hbN : b < N) (hN : N ≤ w.heap.size) (t : Rt) (ht : RxAt w t) (hf : Fr N t) (hs : ∀ z ∈ ([42, 43, 63, 123] : List UInt8), (hdC l == [z]) = false) :
    Calls Tryz.prog 68 #[.pointer (some ⟨b, 0, none⟩), t.v] w (RkPost N w b zs (er t) l) := by
  obtain ⟨tA, tc, htrv⟩ := rwat_len ht.rows
  obtain ⟨tB, td, htkv⟩ := ksat_len ht.ks
  have HCS := hide (show t.cs = [.int .i64 t.k, .string t.ch, .bool t.nt, .slice tA t.rows.length tc, .int .i64 t.mi, .int .i64 t.ma, .bool t.lz, .slice tB t.kids.length td] by unfold Rt.cs; rw [htrv, htkv])
  have HTV := hide (show t.v = .agg #[.int .i64 t.k, .string t.ch, .bool t.nt, .slice tA t.rows.length tc, .int .i64 t.mi, .int .i64 t.ma, .bool t.lz, .slice tB t.kids.length td] by unfold Rt.v Rt.cs; rw [htrv, htkv])
  rw [HTV.out]
  have hbl := h.lt
  have HS := hide h
  have HBN := hide hbN
  have HN := hide hN
  have HT := hide ht
  have HF := hide hf
  obtain ⟨W4, hW4⟩ : ∃ W, W = ((((w.alloc (.cells #[.int .i64 t.k, .string t.ch, .bool t.nt, .slice tA t.rows.length tc, .int .i64 t.mi, .int .i64 t.ma, .bool t.lz, .slice tB t.kids.length td] 25)).alloc (.cells #[.int .i64 0, .string ⟨#[]⟩, .bool false, .slice none 0 0, .int .i64 0, .int .i64 0, .bool false, .slice none 0 0] 25)).alloc (.cells #[.int .i64 t.k, .string t.ch, .bool t.nt, .slice tA t.rows.length tc, .int .i64 t.mi, .int .i64 t.ma, .bool t.lz, .slice tB t.kids.length td] 25)).alloc (.cells #[.int .i64 7, .string ⟨#[]⟩, .bool false, .slice none 0 0, .int .i64 0, .int .i64 (-1), .bool false, .slice (some ⟨w.heap.size + 1 + 1, 0, none⟩) 1 1] 25)) := ⟨_, rfl⟩
  have HBL : Hid (Below w.heap.size w W4) := hide (by rw [hW4]; exact bl_alloc (bl_alloc (bl_alloc (bl_alloc (bl_refl w) _) _) _) _)
  have HP0 := hide (h.bl HBL.out)
  have X0 : Hid (Cl W4 w.heap.size [.int .i64 t.k, .string t.ch, .bool t.nt, .slice tA t.rows.length tc, .int .i64 t.mi, .int .i64 t.ma, .bool t.lz, .slice tB t.kids.length td]) := hide (by rw [hW4]; exact (cl_next w [.int .i64 t.k, .string t.ch, .bool t.nt, .slice tA t.rows.length tc, .int .i64 t.mi, .int .i64 t.ma, .bool t.lz, .slice tB t.kids.length td] 25 _ rfl).bl (bl_alloc (bl_alloc (bl_alloc (bl_refl _) _) _) _))
  have Z0 : Hid (Cl W4 (w.heap.size + 1) [.int .i64 0, .string ⟨#[]⟩, .bool false, .slice none 0 0, .int .i64 0, .int .i64 0, .bool false, .slice none 0 0]) := hide (by rw [hW4]; exact (cl_next (w.alloc (.cells #[.int .i64 t.k, .string t.ch, .bool t.nt, .slice tA t.rows.length tc, .int .i64 t.mi, .int .i64 t.ma, .bool t.lz, .slice tB t.kids.length td] 25)) [.int .i64 0, .string ⟨#[]⟩, .bool false, .slice none 0 0, .int .i64 0, .int .i64 0, .bool false, .slice none 0 0] 25 _ (by simp)).bl (bl_alloc (bl_alloc (bl_refl _) _) _))
  have K0 : Hid (Cl W4 (w.heap.size + 1 + 1) [.int .i64 t.k, .string t.ch, .bool t.nt, .slice tA t.rows.length tc, .int .i64 t.mi, .int .i64 t.ma, .bool t.lz, .slice tB t.kids.length td]) := hide (by rw [hW4]; exact (cl_next ((w.alloc (.cells #[.int .i64 t.k, .string t.ch, .bool t.nt, .slice tA t.rows.length tc, .int .i64 t.mi, .int .i64 t.ma, .bool t.lz, .slice tB t.kids.length td] 25)).alloc (.cells #[.int .i64 0, .string ⟨#[]⟩, .bool false, .slice none 0 0, .int .i64 0, .int .i64 0, .bool false, .slice none 0 0] 25)) [.int .i64 t.k, .string t.ch, .bool t.nt, .slice tA t.rows.length tc, .int .i64 t.mi, .int .i64 t.ma, .bool t.lz, .slice tB t.kids.length td] 25 _ (by simp)).bl (bl_alloc (bl_refl _) _))
  have Y0 : Hid (Cl W4 (w.heap.size + 1 + 1 + 1) [.int .i64 7, .string ⟨#[]⟩, .bool false, .slice none 0 0, .int .i64 0, .int .i64 (-1), .bool false, .slice (some ⟨w.heap.size + 1 + 1, 0, none⟩) 1 1]) := hide (by rw [hW4]; exact cl_next (((w.alloc (.cells #[.int .i64 t.k, .string t.ch, .bool t.nt, .slice tA t.rows.length tc, .int .i64 t.mi, .int .i64 t.ma, .bool t.lz, .slice tB t.kids.length td] 25)).alloc (.cells #[.int .i64 0, .string ⟨#[]⟩, .bool false, .slice none 0 0, .int .i64 0, .int .i64 0, .bool false, .slice none 0 0] 25)).alloc (.cells #[.int .i64 t.k, .string t.ch, .bool t.nt, .slice tA t.rows.length tc, .int .i64 t.mi, .int .i64 t.ma, .bool t.lz, .slice tB t.kids.length td] 25)) [.int .i64 7, .string ⟨#[]⟩, .bool false, .slice none 0 0, .int .i64 0, .int .i64 (-1), .bool false, .slice (some ⟨w.heap.size + 1 + 1, 0, none⟩) 1 1] 25 _ (by simp))
  have HSELF := hide (HS.out.self HBL.out)
  have HB0 := hide (show w.heap.size ≠ b by omega)
  have HB1 := hide (show w.heap.size + 1 ≠ b by omega)
  have HB2 := hide (show w.heap.size + 1 + 1 ≠ b by omega)
  have HB3 := hide (show w.heap.size + 1 + 1 + 1 ≠ b by omega)
  have HT0 := hide (fun W (hp : Rp W b A c zs l) => rr_take hp ⟨#[42]⟩ (by decide) false (hs 42 (by decide)))
  have HT1 := hide (fun W (hp : Rp W b A c zs l) => rr_take hp ⟨#[43]⟩ (by decide) false (hs 43 (by decide)))
  have HT2 := hide (fun W (hp : Rp W b A c zs l) => rr_take hp ⟨#[63]⟩ (by decide) false (hs 63 (by decide)))
  have HT3 := hide (fun W (hp : Rp W b A c zs l) => rr_take hp ⟨#[123]⟩ (by decide) false (hs 123 (by decide)))
  clear h hbN hN ht hf htrv htkv hbl hs
  go_enter Tryz.func68, Tryz.ntmps68
  go_wp2_with fail
  rw [← hW4]
  refine (HT0.out _ HP0.out).mono ?_
  rintro e u0 ⟨rfl, hm⟩
  have N0 : Hid (Rv W4 u0 b zs l) := hide (hm)
  clear hm
  go_wp2_with fail
  refine (HT1.out _ (N0.out.pl HP0.out)).mono ?_
  rintro e u1 ⟨rfl, hm⟩
  have N1 : Hid (Rv W4 u1 b zs l) := hide (N0.out.trans hm)
  clear hm
  go_wp2_with fail
  refine (HT2.out _ (N1.out.pl HP0.out)).mono ?_
  rintro e u2 ⟨rfl, hm⟩
  have N2 : Hid (Rv W4 u2 b zs l) := hide (N1.out.trans hm)
  clear hm
  go_wp2_with fail
  refine (HT3.out _ (N2.out.pl HP0.out)).mono ?_
  rintro e u3 ⟨rfl, hm⟩
  have N3 : Hid (Rv W4 u3 b zs l) := hide (N2.out.trans hm)
  clear hm
  obtain ⟨x0, x1, x2, x3, x4, x5, x6, x7⟩ := (X0.out.mv N3.out.1 HB0.out).eight
  obtain ⟨z0, z1, z2, z3, z4, z5, z6, z7⟩ := (Z0.out.mv N3.out.1 HB1.out).eight
  have hf1 := (Z0.out.mv N3.out.1 HB1.out).f
  have HW8 := hide (rv8 (HSELF.out.trans N3.out) HB1.out (show w.heap.size ≤ w.heap.size + 1 by omega) 0 (.int .i64 t.k) 1 (.string t.ch) 2 (.bool t.nt) 3 (.slice tA t.rows.length tc) 4 (.int .i64 t.mi) 5 (.int .i64 t.ma) 6 (.bool t.lz) 7 (.slice tB t.kids.length td))
  go_wp2
  refine bodyPost_ret (v := .tuple #[.agg #[.int .i64 t.k, .string t.ch, .bool t.nt, .slice tA t.rows.length tc, .int .i64 t.mi, .int .i64 t.ma, .bool t.lz, .slice tB t.kids.length td], .int .i64 0]) ?_ rfl ⟨t, by rw [HTV.out], HW8.out, rx_kept HT.out HF.out (rv_kept HW8.out HBN.out), HF.out, rfl⟩
  rw [results_cell2 rfl]
  go_simp
set_option maxHeartbeats 16000000 in
theorem mk_times_lz {w : World} {b N : Nat} {A : Option Addr} {c : Nat} {zs : List ByteArray} {l : List UInt8} (h : Rp w b A c zs l) (hbN : b < N) (hN : N ≤ w.heap.size) (t : Rt) (ht : RxAt w t) (hf : Fr N t) (h42 : (hdC l == [42]) = true) (h63 : (hdC (tlC l) == [63]) = true) :
    Calls Tryz.prog 68 #[.pointer (some ⟨b, 0, none⟩), t.v] w (RkPost N w b zs (.mk 7 ⟨#[]⟩ false (.slice none 0 0) [] 0 (-1) true (.slice none 0 0) [er t]) (tlC (tlC l))) := by
  obtain ⟨tA, tc, htrv⟩ := rwat_len ht.rows
  obtain ⟨tB, td, htkv⟩ := ksat_len ht.ks
  have HCS := hide (show t.cs = [.int .i64 t.k, .string t.ch, .bool t.nt, .slice tA t.rows.length tc, .int .i64 t.mi, .int .i64 t.ma, .bool t.lz, .slice tB t.kids.length td] by unfold Rt.cs; rw [htrv, htkv])
  have HTV := hide (show t.v = .agg #[.int .i64 t.k, .string t.ch, .bool t.nt, .slice tA t.rows.length tc, .int .i64 t.mi, .int .i64 t.ma, .bool t.lz, .slice tB t.kids.length td] by unfold Rt.v Rt.cs; rw [htrv, htkv])
  rw [HTV.out]
  have hbl := h.lt
  have HS := hide h
  have HBN := hide hbN
  have HN := hide hN
  have HT := hide ht
  have HF := hide hf
  obtain ⟨W4, hW4⟩ : ∃ W, W = ((((w.alloc (.cells #[.int .i64 t.k, .string t.ch, .bool t.nt, .slice tA t.rows.length tc, .int .i64 t.mi, .int .i64 t.ma, .bool t.lz, .slice tB t.kids.length td] 25)).alloc (.cells #[.int .i64 0, .string ⟨#[]⟩, .bool false, .slice none 0 0, .int .i64 0, .int .i64 0, .bool false, .slice none 0 0] 25)).alloc (.cells #[.int .i64 t.k, .string t.ch, .bool t.nt, .slice tA t.rows.length tc, .int .i64 t.mi, .int .i64 t.ma, .bool t.lz, .slice tB t.kids.length td] 25)).alloc (.cells #[.int .i64 7, .string ⟨#[]⟩, .bool false, .slice none 0 0, .int .i64 0, .int .i64 (-1), .bool false, .slice (some ⟨w.heap.size + 1 + 1, 0, none⟩) 1 1] 25)) := ⟨_, rfl⟩
  have HBL : Hid (Below w.heap.size w W4) := hide (by rw [hW4]; exact bl_alloc (bl_alloc (bl_alloc (bl_alloc (bl_refl w) _) _) _) _)
  have HP0 := hide (h.bl HBL.out)
  have X0 : Hid (Cl W4 w.heap.size [.int .i64 t.k, .string t.ch, .bool t.nt, .slice tA t.rows.length tc, .int .i64 t.mi, .int .i64 t.ma, .bool t.lz, .slice tB t.kids.length td]) := hide (by rw [hW4]; exact (cl_next w [.int .i64 t.k, .string t.ch, .bool t.nt, .slice tA t.rows.length tc, .int .i64 t.mi, .int .i64 t.ma, .bool t.lz, .slice tB t.kids.length td] 25 _ rfl).bl (bl_alloc (bl_alloc (bl_alloc (bl_refl _) _) _) _))
  have Z0 : Hid (Cl W4 (w.heap.size + 1) [.int .i64 0, .string ⟨#[]⟩, .bool false, .slice none 0 0, .int .i64 0, .int .i64 0, .bool false, .slice none 0 0]) := hide (by rw [hW4]; exact (cl_next (w.alloc (.cells #[.int .i64 t.k, .string t.ch, .bool t.nt, .slice tA t.rows.length tc, .int .i64 t.mi, .int .i64 t.ma, .bool t.lz, .slice tB t.kids.length td] 25)) [.int .i64 0, .string ⟨#[]⟩, .bool false, .slice none 0 0, .int .i64 0, .int .i64 0, .bool false, .slice none 0 0] 25 _ (by simp)).bl (bl_alloc (bl_alloc (bl_refl _) _) _))
  have K0 : Hid (Cl W4 (w.heap.size + 1 + 1) [.int .i64 t.k, .string t.ch, .bool t.nt, .slice tA t.rows.length tc, .int .i64 t.mi, .int .i64 t.ma, .bool t.lz, .slice tB t.kids.length td]) := hide (by rw [hW4]; exact (cl_next ((w.alloc (.cells #[.int .i64 t.k, .string t.ch, .bool t.nt, .slice tA t.rows.length tc, .int .i64 t.mi, .int .i64 t.ma, .bool t.lz, .slice tB t.kids.length td] 25)).alloc (.cells #[.int .i64 0, .string ⟨#[]⟩, .bool false, .slice none 0 0, .int .i64 0, .int .i64 0, .bool false, .slice none 0 0] 25)) [.int .i64 t.k, .string t.ch, .bool t.nt, .slice tA t.rows.length tc, .int .i64 t.mi, .int .i64 t.ma, .bool t.lz, .slice tB t.kids.length td] 25 _ (by simp)).bl (bl_alloc (bl_refl _) _))
  have Y0 : Hid (Cl W4 (w.heap.size + 1 + 1 + 1) [.int .i64 7, .string ⟨#[]⟩, .bool false, .slice none 0 0, .int .i64 0, .int .i64 (-1), .bool false, .slice (some ⟨w.heap.size + 1 + 1, 0, none⟩) 1 1]) := hide (by rw [hW4]; exact cl_next (((w.alloc (.cells #[.int .i64 t.k, .string t.ch, .bool t.nt, .slice tA t.rows.length tc, .int .i64 t.mi, .int .i64 t.ma, .bool t.lz, .slice tB t.kids.length td] 25)).alloc (.cells #[.int .i64 0, .string ⟨#[]⟩, .bool false, .slice none 0 0, .int .i64 0, .int .i64 0, .bool false, .slice none 0 0] 25)).alloc (.cells #[.int .i64 t.k, .string t.ch, .bool t.nt, .slice tA t.rows.length tc, .int .i64 t.mi, .int .i64 t.ma, .bool t.lz, .slice tB t.kids.length td] 25)) [.int .i64 7, .string ⟨#[]⟩, .bool false, .slice none 0 0, .int .i64 0, .int .i64 (-1), .bool false, .slice (some ⟨w.heap.size + 1 + 1, 0, none⟩) 1 1] 25 _ (by simp))
  have HSELF := hide (HS.out.self HBL.out)
  have HB0 := hide (show w.heap.size ≠ b by omega)
  have HB1 := hide (show w.heap.size + 1 ≠ b by omega)
  have HB2 := hide (show w.heap.size + 1 + 1 ≠ b by omega)
  have HB3 := hide (show w.heap.size + 1 + 1 + 1 ≠ b by omega)
  obtain ⟨r0, hr0⟩ : ∃ r0, tlC l = r0 := ⟨_, rfl⟩
  obtain ⟨r2, hr2⟩ : ∃ r2, tlC r0 = r2 := ⟨_, rfl⟩
  rw [hr0] at h63
  rw [hr0, hr2]
  have HTT : Hid (∀ W, Rp W b A c zs l → Calls Tryz.prog 43 #[.pointer (some ⟨b, 0, none⟩), .string ⟨#[42]⟩] W fun e w' => e = .returned (.bool true) ∧ Rv W w' b zs r0) := hide (fun W hp => by rw [← hr0]; exact rr_take hp ⟨#[42]⟩ (by decide) true h42)
  have HTQ : Hid (∀ W, Rp W b A c zs r0 → Calls Tryz.prog 43 #[.pointer (some ⟨b, 0, none⟩), .string ⟨#[63]⟩] W fun e w' => e = .returned (.bool true) ∧ Rv W w' b zs r2) := hide (fun W hp => by rw [← hr2]; exact rr_take hp ⟨#[63]⟩ (by decide) true h63)
  clear h hbN hN ht hf htrv htkv hbl h42 h63 hr0 hr2
  go_enter Tryz.func68, Tryz.ntmps68
  go_wp2_with fail
  rw [← hW4]
  refine (HTT.out _ HP0.out).mono ?_
  rintro e w2 ⟨rfl, hm⟩
  have M2 : Hid (Rv W4 w2 b zs r0) := hide hm
  clear hm
  go_wp2_with fail
  refine (HTQ.out _ (M2.out.pl HP0.out)).mono ?_
  rintro e w3 ⟨rfl, hm⟩
  have M3 : Hid (Rv W4 w3 b zs r2) := hide (M2.out.trans hm)
  clear hm
  obtain ⟨y0, y1, y2, y3, y4, y5, y6, y7⟩ := (Y0.out.mv M3.out.1 HB3.out).eight
  have hf3 := (Y0.out.mv M3.out.1 HB3.out).f
  obtain ⟨z0, z1, z2, z3, z4, z5, z6, z7⟩ := (Z0.out.mv M3.out.1 HB1.out).eight
  have hf1 := (Z0.out.mv M3.out.1 HB1.out).f
  have KK := hide (K0.out.mv M3.out.1 HB2.out)
  have HM8 := hide (rv8 ((HSELF.out.trans M3.out).put (g := w.heap.size + 1 + 1 + 1) HB3.out (by omega) 6 (.bool true)) HB1.out (show w.heap.size ≤ w.heap.size + 1 by omega) 0 (.int .i64 7) 1 (.string ⟨#[]⟩) 2 (.bool false) 3 (.slice none 0 0) 4 (.int .i64 0) 5 (.int .i64 (-1)) 6 (.bool true) 7 (.slice (some ⟨w.heap.size + 1 + 1, 0, none⟩) 1 1))
  have HEND := hide (rk_one (k := 7) (mi := 0) (ma := -1) (lz := true) (g := w.heap.size + 1 + 1) HM8.out (rv_kept HM8.out HBN.out) HT.out HF.out (Nat.le_trans HN.out (by omega)) N (Nat.le_refl _) (fun j u hu => set8 (set_blk (KK.out.c j u (by rw [← HCS.out]; exact hu)) (show w.heap.size + 1 + 1 + 1 ≠ w.heap.size + 1 + 1 by omega)) (show w.heap.size + 1 ≠ w.heap.size + 1 + 1 by omega)))
  go_wp2
  refine bodyPost_ret (v := .tuple #[.agg #[.int .i64 7, .string ⟨#[]⟩, .bool false, .slice none 0 0, .int .i64 0, .int .i64 (-1), .bool true, .slice (some ⟨w.heap.size + 1 + 1, 0, none⟩) 1 1], .int .i64 0]) ?_ rfl HEND.out
  rw [results_cell2 rfl]
  go_simp
set_option maxHeartbeats 16000000 in
theorem mk_term {w : World} {b : Nat} {A : Option Addr} {c : Nat} {zs : List ByteArray} {l : List UInt8} (h : Rp w b A c zs l) (d : Nat) (h94 : (hdC l == [94]) = false) (h36 : (hdC l == [36]) = false) (h92 : (hdC l == [92]) = false) (x y : Rt) (r1 r2 : List UInt8)
    (HAT : ∀ W, Rp W b A c zs l → Calls Tryz.prog 67 #[.pointer (some ⟨b, 0, none⟩), .int .i64 (d : Int)] W (RkPost W.heap.size W b zs x r1))
    (HTI : ∀ W N, Rp W b A c zs r1 → b < N → N ≤ W.heap.size → ∀ t, RxAt W t → Fr N t → er t = x → Calls Tryz.prog 68 #[.pointer (some ⟨b, 0, none⟩), t.v] W (RkPost N W b zs y r2)) :
    Calls Tryz.prog 41 #[.pointer (some ⟨b, 0, none⟩), .int .i64 (d : Int)] w (RkPost w.heap.size w b zs y r2) := by
  have hbw := h.lt
  have HS := hide h
  have HNB := hide (show w.heap.size ≠ b by omega)
  have HP0 := hide (h.bl (bl_alloc (bl_refl w) (.cells #[.int .i64 0, .string ⟨#[]⟩, .bool false, .slice none 0 0, .int .i64 0, .int .i64 0, .bool false, .slice none 0 0] 25)))
  have HSELF := hide (HS.out.self (bl_alloc (bl_refl w) (.cells #[.int .i64 0, .string ⟨#[]⟩, .bool false, .slice none 0 0, .int .i64 0, .int .i64 0, .bool false, .slice none 0 0] 25)))
  have Z0 := hide (show Cl (w.alloc (.cells #[.int .i64 0, .string ⟨#[]⟩, .bool false, .slice none 0 0, .int .i64 0, .int .i64 0, .bool false, .slice none 0 0] 25)) w.heap.size [.int .i64 0, .string ⟨#[]⟩, .bool false, .slice none 0 0, .int .i64 0, .int .i64 0, .bool false, .slice none 0 0] from cl_alloc w [.int .i64 0, .string ⟨#[]⟩, .bool false, .slice none 0 0, .int .i64 0, .int .i64 0, .bool false, .slice none 0 0] _)
  obtain ⟨C, hC⟩ : ∃ C, bsC (hdC l) = C := ⟨_, rfl⟩
  have hCd : C.data.toList = hdC l := by rw [← hC, bsC_data]
  obtain ⟨y9, v9⟩ := lit_eq C #[92] false (by rw [hCd]; exact h92)
  have HBC := hide hC
  have HT0 := hide (fun W (hp : Rp W b A c zs l) => rr_take hp ⟨#[94]⟩ (by decide) false h94)
  have HT1 := hide (fun W (hp : Rp W b A c zs l) => rr_take hp ⟨#[36]⟩ (by decide) false h36)
  have HHA := hide HAT
  have HHT := hide HTI
  clear h hbw h94 h36 h92 HAT HTI hC hCd
  go_enter Tryz.func41, Tryz.ntmps41
  go_wp2_with fail
  refine (HT0.out _ HP0.out).mono ?_
  rintro e u0 ⟨rfl, hm⟩
  have N0 : Hid (Rv (w.alloc (.cells #[.int .i64 0, .string ⟨#[]⟩, .bool false, .slice none 0 0, .int .i64 0, .int .i64 0, .bool false, .slice none 0 0] 25)) u0 b zs l) := hide (hm)
  clear hm
  go_wp2_with fail
  refine (HT1.out _ (N0.out.pl HP0.out)).mono ?_
  rintro e u1 ⟨rfl, hm⟩
  have N1 : Hid (Rv (w.alloc (.cells #[.int .i64 0, .string ⟨#[]⟩, .bool false, .slice none 0 0, .int .i64 0, .int .i64 0, .bool false, .slice none 0 0] 25)) u1 b zs l) := hide (N0.out.trans hm)
  clear hm
  have p1 := (N1.out.pl HP0.out).row
  have p2 := (N1.out.pl HP0.out).pos
  have HSE2 := hide (fun (u : Later u1) => rr_see ((N1.out.pl HP0.out).bl u.below) C HBC.out)
  go_wp2_with fail
  refine wp_region_later (by kernel_rfl) (by kernel_rfl) ?_
  repeat (go_big_quiet_step (first | (go_at_call 40; exact later_call (HSE2.out _)) | exact rfl))
  refine wpQuiet_nil ?_
  rintro w5 ⟨⟨_, hb5⟩, rfl⟩
  have N2 : Hid (Rv (w.alloc (.cells #[.int .i64 0, .string ⟨#[]⟩, .bool false, .slice none 0 0, .int .i64 0, .int .i64 0, .bool false, .slice none 0 0] 25)) w5 b zs l) := hide (N1.out.bl hb5)
  clear p1 p2 hb5
  have p1 := (N2.out.pl HP0.out).row
  have p2 := (N2.out.pl HP0.out).pos
  have HSE3 := hide (fun (u : Later w5) => rr_see ((N2.out.pl HP0.out).bl u.below) C HBC.out)
  go_wp2_with fail
  refine wp_region_later (by kernel_rfl) (by kernel_rfl) ?_
  repeat (go_big_quiet_step (first | (go_at_call 40; exact later_call (HSE3.out _)) | exact rfl))
  refine wpQuiet_nil ?_
  rintro u3 ⟨⟨_, hb8⟩, rfl⟩
  have N3 : Hid (Rv (w.alloc (.cells #[.int .i64 0, .string ⟨#[]⟩, .bool false, .slice none 0 0, .int .i64 0, .int .i64 0, .bool false, .slice none 0 0] 25)) u3 b zs l) := hide (N2.out.bl hb8)
  clear p1 p2 hb8
  go_wp2_with fail
  refine (HHA.out _ (N3.out.pl HP0.out)).mono ?_
  rintro e w3 ⟨t, rfl, hm3, hrx, hfr, her⟩
  have N4 : Hid (Rv (w.alloc (.cells #[.int .i64 0, .string ⟨#[]⟩, .bool false, .slice none 0 0, .int .i64 0, .int .i64 0, .bool false, .slice none 0 0] 25)) w3 b zs r1) := hide (N3.out.trans hm3)
  have M3w := hide (HSELF.out.trans N4.out)
  have HBN := hide (show b < u3.heap.size from N3.out.1.lt)
  have HSZ := hide hm3.1.grown.size
  have HTI := hide (fun (W : World) (hb : Below w3.heap.size w3 W) => HHT.out W u3.heap.size ((M3w.out.pl HS.out).bl hb) HBN.out (Nat.le_trans HSZ.out hb.size) t (rx_below hrx hb) hfr her)
  obtain ⟨tA, tc, htrv⟩ := rwat_len hrx.rows
  obtain ⟨tB, td, htkv⟩ := ksat_len hrx.ks
  have HTV := hide (show t.v = .agg #[.int .i64 t.k, .string t.ch, .bool t.nt, .slice tA t.rows.length tc, .int .i64 t.mi, .int .i64 t.ma, .bool t.lz, .slice tB t.kids.length td] by unfold Rt.v Rt.cs; rw [htrv, htkv])
  rw [HTV.out]
  rw [HTV.out] at HTI
  have M4w := hide (M3w.out.bl (bl_alloc (bl_refl w3) (.cells #[.int .i64 t.k, .string t.ch, .bool t.nt, .slice tA t.rows.length tc, .int .i64 t.mi, .int .i64 t.ma, .bool t.lz, .slice tB t.kids.length td] 25)))
  have Z4 := hide ((Z0.out.mv N4.out.1 HNB.out).bl (bl_alloc (bl_refl w3) (.cells #[.int .i64 t.k, .string t.ch, .bool t.nt, .slice tA t.rows.length tc, .int .i64 t.mi, .int .i64 t.ma, .bool t.lz, .slice tB t.kids.length td] 25)))
  have K4 := hide (show Cl (w3.alloc (.cells #[.int .i64 t.k, .string t.ch, .bool t.nt, .slice tA t.rows.length tc, .int .i64 t.mi, .int .i64 t.ma, .bool t.lz, .slice tB t.kids.length td] 25)) w3.heap.size [.int .i64 t.k, .string t.ch, .bool t.nt, .slice tA t.rows.length tc, .int .i64 t.mi, .int .i64 t.ma, .bool t.lz, .slice tB t.kids.length td] from cl_alloc w3 [.int .i64 t.k, .string t.ch, .bool t.nt, .slice tA t.rows.length tc, .int .i64 t.mi, .int .i64 t.ma, .bool t.lz, .slice tB t.kids.length td] _)
  have HWL := hide (show w.heap.size + 1 ≤ u3.heap.size by have := N3.out.1.grown.size; simpa using this)
  clear hm3 hrx hfr htrv htkv her
  obtain ⟨k0, k1, k2, k3, k4, k5, k6, k7⟩ := K4.out.eight
  go_wp2_with fail
  refine (HTI.out _ (bl_alloc (bl_refl w3) _)).mono ?_
  clear k0 k1 k2 k3 k4 k5 k6 k7
  rintro e w6 ⟨u, rfl, hm6, hrx2, hfr2, her2⟩
  have HMM := hide (M4w.out.trans hm6)
  obtain ⟨z0, z1, z2, z3, z4, z5, z6, z7⟩ := (Z4.out.mv hm6.1 HNB.out).eight
  have hf1 := (Z4.out.mv hm6.1 HNB.out).f
  obtain ⟨uA, uc, hurv⟩ := rwat_len hrx2.rows
  obtain ⟨uB, ud, hukv⟩ := ksat_len hrx2.ks
  have HUV := hide (show u.v = .agg #[.int .i64 u.k, .string u.ch, .bool u.nt, .slice uA u.rows.length uc, .int .i64 u.mi, .int .i64 u.ma, .bool u.lz, .slice uB u.kids.length ud] by unfold Rt.v Rt.cs; rw [hurv, hukv])
  rw [HUV.out]
  have HRU := hide hrx2
  have HFU := hide hfr2
  have HER := hide her2
  clear hm6 hrx2 hfr2 hurv hukv her2
  go_wp2
  refine bodyPost_ret (v := .tuple #[.agg #[.int .i64 u.k, .string u.ch, .bool u.nt, .slice uA u.rows.length uc, .int .i64 u.mi, .int .i64 u.ma, .bool u.lz, .slice uB u.kids.length ud], .int .i64 0]) ?_ rfl ⟨u, by rw [HUV.out], (rv8 (HMM.out) HNB.out (Nat.le_refl _) _ _ _ _ _ _ _ _ _ _ _ _ _ _ _ _), rx_kept HRU.out (HFU.out.mono HWL.out) (kept8 _ (Nat.lt_succ_self _) _ _ _ _ _ _ _ _ _ _ _ _ _ _ _ _), HFU.out.mono (Nat.le_trans (Nat.le_succ _) HWL.out), HER.out⟩
  rw [results_cell2 rfl]
  go_simp
end Go.Proofs.YtcnliipkfccohabGreat
end
section
namespace Go.Proofs.YtcnliipkfccohabGreat
open Go.ChangeShapes Go.WideShapes Go.ChangeAt Go.RowKit
open SetM
attribute [local go_sem ↓] Go.wp_at_zero Go.wp_at_succ
set_option maxRecDepth 100000
set_option linter.unusedVariables false
attribute [local go_sem] later_cell later_frozen
inductive TsR (T : List UInt8 → Rt → List UInt8 → Prop) : List UInt8 → List Rt → List UInt8 → Prop
  | stop (l : List UInt8) (h : endB l = true) : TsR T l [] l
  | go (l : List UInt8) (x : Rt) (l' : List UInt8) (xs : List Rt) (r : List UInt8) (h : endB l = false) (ht : T l x l') (hs : sM x ≤ 100) (hl : l'.length < l.length) (hr : TsR T l' xs r) : TsR T l (x :: xs) r
inductive AsR (T : List UInt8 → Rt → List UInt8 → Prop) : List UInt8 → List Rt → List UInt8 → Prop
  | last (l : List UInt8) (xs : List Rt) (r : List UInt8) (h : TsR T l xs r) (hs : sM (seqX (flK 0 xs)) ≤ 300) (hb : (hdC r == [124]) = false) : AsR T l [seqX (flK 0 xs)] r
  | more (l : List UInt8) (xs : List Rt) (r : List UInt8) (ys : List Rt) (r' : List UInt8) (h : TsR T l xs r) (hs : sM (seqX (flK 0 xs)) ≤ 300) (hb : (hdC r == [124]) = true) (hl : (tlC r).length < l.length) (hr : AsR T (tlC r) ys r') : AsR T l (seqX (flK 0 xs) :: ys) r'
theorem AsR.cut {T : List UInt8 → Rt → List UInt8 → Prop} {l r : List UInt8} {ys : List Rt} (h : AsR T l ys r) : ∃ X q, TsR T l X q ∧ sM (seqX (flK 0 X)) ≤ 300 ∧ (((hdC q == [124]) = false ∧ ys = [seqX (flK 0 X)] ∧ r = q) ∨ ((hdC q == [124]) = true ∧ ∃ ys', ys = seqX (flK 0 X) :: ys' ∧ (tlC q).length < l.length ∧ AsR T (tlC q) ys' r)) := by
  cases h with
  | last _ X _ h hs hb => exact ⟨X, r, h, hs, .inl ⟨hb, rfl, rfl⟩⟩
  | more _ X q ys' _ h hs hb hl hr => exact ⟨X, q, h, hs, .inr ⟨hb, ys', rfl, hl, hr⟩⟩
theorem TsR.cut {T : List UInt8 → Rt → List UInt8 → Prop} {l q : List UInt8} {xs : List Rt} (h : TsR T l xs q) : (endB l = true ∧ xs = [] ∧ q = l) ∨ (endB l = false ∧ ∃ x l' xs', xs = x :: xs' ∧ T l x l' ∧ sM x ≤ 100 ∧ l'.length < l.length ∧ TsR T l' xs' q) := by
  cases h with
  | stop _ h => exact .inl ⟨h, rfl, rfl⟩
  | go _ x l' xs' _ h ht hs hl hr => exact .inr ⟨h, x, l', xs', rfl, ht, hs, hl, hr⟩
set_option maxHeartbeats 32000000 in
theorem mk_pattern {w : World} {b : Nat} {A : Option Addr} {c : Nat} {zs : List ByteArray} {l : List UInt8} (h : Rp w b A c zs l) (hl : l.length ≤ 256) (d : Nat) (T : List UInt8 → Rt → List UInt8 → Prop)
    (HTRM : ∀ W l' x r, T l' x r → Rp W b A c zs l' → Calls Tryz.prog 41 #[.pointer (some ⟨b, 0, none⟩), .int .i64 (d : Int)] W (RkPost W.heap.size W b zs x r)) (Y : List Rt) (r : List UInt8) (ha : AsR T l Y r) :
    Calls Tryz.prog 25 #[.pointer (some ⟨b, 0, none⟩), .int .i64 (d : Int)] w (RkPost w.heap.size w b zs (altX (flK 1 Y)) r) := by
  obtain ⟨i0, hi0, hz0', hz1, hz2⟩ := info_parts info_rx
  have hbw := h.lt
  have HS := hide h
  have HNB := hide (show w.heap.size ≠ b by omega)
  have HBW := hide hbw
  have HP0 := hide (h.bl (bl_alloc (bl_refl w) (.cells #[.int .i64 0, .string ⟨#[]⟩, .bool false, .slice none 0 0, .int .i64 0, .int .i64 0, .bool false, .slice none 0 0] 25)))
  have HSELF := hide (HS.out.self (bl_alloc (bl_refl w) (.cells #[.int .i64 0, .string ⟨#[]⟩, .bool false, .slice none 0 0, .int .i64 0, .int .i64 0, .bool false, .slice none 0 0] 25)))
  have Z0 := hide (show Cl (w.alloc (.cells #[.int .i64 0, .string ⟨#[]⟩, .bool false, .slice none 0 0, .int .i64 0, .int .i64 0, .bool false, .slice none 0 0] 25)) w.heap.size [.int .i64 0, .string ⟨#[]⟩, .bool false, .slice none 0 0, .int .i64 0, .int .i64 0, .bool false, .slice none 0 0] from cl_alloc w [.int .i64 0, .string ⟨#[]⟩, .bool false, .slice none 0 0, .int .i64 0, .int .i64 0, .bool false, .slice none 0 0] _)
  have HTM := hide HTRM
  have HA0 := hide ha
  have HL0 := hide (show ([] : List Rt).length + l.length ≤ 256 by simp only [List.length_nil]; omega)
  have HM0 := hide (HP0.out.self (bl_refl _))
  clear h hbw HTRM ha hl
  go_enter Tryz.func25, Tryz.ntmps25
  go_wp2
  go_loopw [6] (fun v wr => ∃ (L : List Rt) (l1 : List UInt8) (ys : List Rt) (A1 : Option Addr) (c1 : Nat), v = .slice A1 L.length c1 ∧ Hid (wr.ownsRow (w.heap.size + 1) 25 8 (.slice A1 L.length c1) L.length (flatX L)) ∧ Hid (Rv (w.alloc (.cells #[.int .i64 0, .string ⟨#[]⟩, .bool false, .slice none 0 0, .int .i64 0, .int .i64 0, .bool false, .slice none 0 0] 25)) wr b zs l1) ∧ Hid (L.map er ++ ys = Y) ∧ Hid (AsR T l1 ys r) ∧ L.length + l1.length ≤ 256 ∧ Hid (sL L ≤ 300 * L.length) ∧ Hid (∀ x ∈ L, (RxAt wr x ∧ ∀ g, (Value.slice A1 L.length c1).ownBlock = some g → Off g x) ∧ Fr (w.heap.size + 1) x)) (fun _ wr => zs.length - posOf wr b)
  case atStart => exact ⟨[], l, Y, none, 0, rfl, hide ⟨by simp [flatX], .inl ⟨rfl, rfl⟩⟩, HM0, hide rfl, HA0, HL0.out, hide (by simp [sL]), hide (fun x hx => by cases hx)⟩
  case round =>
    obtain ⟨L, l1, ys, A1, c1, rfl, HROW, HM, HY, HAS, hal, HSZ, HALL⟩ := hrel
    have HPL := hide (HM.out.pl HP0.out)
    obtain ⟨X, q, hts, hsx, hcase⟩ := HAS.out.cut
    have HTS0 := hide hts
    have HSX := hide hsx
    have HCASE := hide hcase
    have HN1 := hide (show L.length + l1.length ≤ 256 from hal)
    have HG9 := hide (show ∀ g, (Value.slice A1 L.length c1).ownBlock = some g → g < wr.heap.size from fun g hg => (HROW.out.lt g hg).2)
    have HWW := hide (show w.heap.size + 1 ≤ wr.heap.size by have := HM.out.1.grown.size; simpa using this)
    have HBR := hide (show b < wr.heap.size from HM.out.1.lt)
    have HM2 := hide (HPL.out.self (bl_refl wr))
    clear hts hsx hcase HAS hal HM0 HL0 HA0
    rename World => wo
    go_wp2
    go_loopw [7] (fun v wr => ∃ (L2 : List Rt) (l2 : List UInt8) (xs : List Rt) (A2 : Option Addr) (c2 : Nat), v = .slice A2 L2.length c2 ∧ Hid (wr.ownsRow wo.heap.size 25 8 (.slice A2 L2.length c2) L2.length (flatX L2)) ∧ Hid (Rv wo wr b zs l2) ∧ Hid (L2.map er ++ xs = X) ∧ Hid (TsR T l2 xs q) ∧ L2.length + l2.length ≤ 256 ∧ Hid (sL L2 ≤ 100 * L2.length) ∧ l2.length ≤ l1.length ∧ Hid (∀ x ∈ L2, (RxAt wr x ∧ ∀ g, (Value.slice A2 L2.length c2).ownBlock = some g → Off g x) ∧ Fr wo.heap.size x)) (fun _ wr => zs.length - posOf wr b)
    case atStart => exact ⟨[], l1, X, none, 0, rfl, hide ⟨by simp [flatX], .inl ⟨rfl, rfl⟩⟩, HM2, hide rfl, HTS0, by have := HN1.out; simp only [List.length_nil]; omega, hide (by simp [sL]), Nat.le_refl _, hide (fun x hx => by cases hx)⟩
    case round =>
      obtain ⟨L2, l2, xs, A2, c2, rfl, HROW2, HMI, HXS, HTS2, hal2, HSZ2, hl21, HALL2⟩ := hrel
      have HPI := hide (HMI.out.pl HPL.out)
      have HL21 := hide hl21
      have HN2 := hide (show L2.length + l2.length ≤ 256 from hal2)
      obtain ⟨C, hC⟩ : ∃ C, bsC (hdC l2) = C := ⟨_, rfl⟩
      have hCd : C.data.toList = hdC l2 := by rw [← hC, bsC_data]
      have HSE := hide (fun (u : Later wr) => rr_see (HPI.out.bl u.below) C hC)
      have p1 := HPI.out.row
      have p2 := HPI.out.pos
      have hbi := HPI.out.lt
      have hle := HPI.out.le
      obtain ⟨N, hN⟩ : ∃ N, zs.length = N := ⟨_, rfl⟩
      obtain ⟨k, hk⟩ : ∃ k, zs.length - (splitL l2).length = k := ⟨_, rfl⟩
      rw [hk] at p2
      rw [hN] at hk hle p1
      clear hC hal2 HTS0 HM2 hl21
      rcases HTS2.out.cut with ⟨hE, hxs, rfl⟩ | ⟨hE, x, l', xs', hxs, htx, hsx, hlx, htr⟩
      · have HX := hide (show L2.map er = X by have := HXS.out; rw [hxs, List.append_nil] at this; exact this)
        obtain ⟨qt, hqt⟩ : ∃ v, (hdC q == [124]) = v := ⟨_, rfl⟩
        have HTK := hide (fun W (hp : Rp W b A c zs q) => rr_take hp ⟨#[124]⟩ (by decide) qt hqt)
        have HQT := hide hqt
        by_cases h0 : q = []
        · have hkN : k = N := by rw [h0, split_nil, List.length_nil] at hk; omega
          have dk : decide ((k : Int) < (N : Int)) = false := decide_eq_false (by omega)
          have dk' : decide (k < N) = false := decide_eq_false (by omega)
          obtain rfl : qt = false := by rw [← hqt, h0]; rfl
          clear hqt hE h0 hCd hk hle hkN hxs
          go_wp2_with fail
          refine wp_region_later (by kernel_rfl) (by kernel_rfl) ?_
          repeat (go_big_quiet_step (first | (go_at_call 40; exact later_call (HSE.out _)) | exact rfl))
          refine wpQuiet_nil ?_
          rintro w9 ⟨⟨_, hb9⟩, rfl⟩
          have HMI9 := hide (HMI.out.bl hb9)
          have HSQ := hide (rseqf_any (N := wo.heap.size) (.slice A2 L2.length c2) L2 w9 (ksat_below (own_ksat HROW2.out) hb9) (fun i hi => rx_below (HALL2.out _ (List.getElem_mem hi)).1.1 hb9) (by have := HSZ2.out; have := HN2.out; omega) (fun i hi => (HALL2.out _ (List.getElem_mem hi)).2) HMI9.out.1.grown.size)
          unfold RsfPost at HSQ
          clear p1 p2 hbi hb9 dk dk'
          go_wp2_with fail
          refine HSQ.out.mono ?_
          rintro e w3 ⟨t, rfl, hb3, hrx, her, hfr⟩
          have HMI3 := hide (HMI9.out.bl hb3)
          have M3 : Hid (Rv (w.alloc (.cells #[.int .i64 0, .string ⟨#[]⟩, .bool false, .slice none 0 0, .int .i64 0, .int .i64 0, .bool false, .slice none 0 0] 25)) w3 b zs q) := hide (HM.out.trans HMI3.out)
          have HROW3 := hide (own_rv HROW.out HMI3.out.1 (Nat.lt_succ_of_lt HBW.out))
          have HER := hide (show er t = seqX (flK 0 X) by rw [← HX.out, flK_er]; exact her)
          have HFR := hide (hfr.mono HWW.out)
          have HOFF := hide (show ∀ g, (Value.slice A1 L.length c1).ownBlock = some g → Off g t from fun g hg => off_fr hfr (HG9.out g hg))
          have HALL3 := hide (show ∀ W, Below w3.heap.size w3 W → (∀ x ∈ L, (RxAt W x ∧ ∀ g, (Value.slice A1 L.length c1).ownBlock = some g → Off g x) ∧ Fr (w.heap.size + 1) x) from fun W hW x hx => ⟨⟨rx_below (rx_kept (HALL.out x hx).1.1 (HALL.out x hx).2 (rv_kept HMI3.out (Nat.lt_succ_of_lt HBW.out))) hW, (HALL.out x hx).1.2⟩, (HALL.out x hx).2⟩)
          obtain ⟨tA, tc, htrv⟩ := rwat_len hrx.rows
          obtain ⟨tB, td, htkv⟩ := ksat_len hrx.ks
          have HTV := hide (show t.v = .agg #[.int .i64 t.k, .string t.ch, .bool t.nt, .slice tA t.rows.length tc, .int .i64 t.mi, .int .i64 t.ma, .bool t.lz, .slice tB t.kids.length td] by unfold Rt.v Rt.cs; rw [htrv, htkv])
          have HCS := hide (show t.cs = [.int .i64 t.k, .string t.ch, .bool t.nt, .slice tA t.rows.length tc, .int .i64 t.mi, .int .i64 t.ma, .bool t.lz, .slice tB t.kids.length td] by unfold Rt.cs; rw [htrv, htkv])
          rw [HTV.out]
          have HRX := hide hrx
          have HONE := hide (show ∀ u ∈ ([.int .i64 t.k, .string t.ch, .bool t.nt, .slice tA t.rows.length tc, .int .i64 t.mi, .int .i64 t.ma, .bool t.lz, .slice tB t.kids.length td] : List Value), u.oneCell' = true by rw [← HCS.out]; intro u hu; exact one_cellX (w := w3) [t] (fun x hx => by obtain rfl : x = t := (by simpa using hx); exact HRX.out) u (by simpa [flatX] using hu))
          have HOWN := hide (fun (W : World) (hb : Below w3.heap.size w3 W) => own_below HROW3.out hb)
          have HB3 := hide (show w.heap.size + 1 ≤ w3.heap.size from Nat.le_trans HWW.out HMI3.out.1.grown.size)
          have HBB := hide (bl_alloc (bl_refl w3) (.cells #[.int .i64 t.k, .string t.ch, .bool t.nt, .slice tA t.rows.length tc, .int .i64 t.mi, .int .i64 t.ma, .bool t.lz, .slice tB t.kids.length td] 25))
          clear hb3 hrx hfr her htrv htkv
          go_wp2_with (at_builtin; go_must (refine wpList_src5 _ rfl _ _ 23 rfl (w.heap.size + 1) 25 i0 rt0.v 8 104 Tryz.underlying23 hi0 hz0' hz1 hz2 rfl (by decide) (.slice A1 L.length c1) L.length (flatX L) rfl (HOWN.out _ HBB.out) (some ⟨_, 0, none⟩) 1 1 [.int .i64 t.k, .string t.ch, .bool t.nt, .slice tA t.rows.length tc, .int .i64 t.mi, .int .i64 t.ma, .bool t.lz, .slice tB t.kids.length td] rfl (src_block (cs := #[.int .i64 t.k, .string t.ch, .bool t.nt, .slice tA t.rows.length tc, .int .i64 t.mi, .int .i64 t.ma, .bool t.lz, .slice tB t.kids.length td]) (heap_new (by simp)) rfl) HONE.out (by have := HN1.out; have := HN2.out; omega) (by decide) (Nat.le_trans HB3.out HBB.out.size) ?_); intro v' w19 hv4 hg4 h5)
          rw [← HCS.out] at hv4
          obtain ⟨B, d9, rfl, hown4, hall4⟩ := row_step (HALL3.out _ HBB.out) (rx_below HRX.out HBB.out) HFR.out HOFF.out hv4 hg4 h5
          have hm4 := (M3.out.bl HBB.out).appendv (HOWN.out _ HBB.out) hg4 (Nat.lt_succ_of_lt HBW.out) (by simp)
          have HM4 := hide hm4
          have HROW4 := hide hown4
          have HALL4 := hide hall4
          have HLL := hide (show (L ++ [t]).length = L.length + 1 by simp)
          have HSZT := hide (show sM t ≤ 300 by rw [← sM_er, HER.out]; exact HSX.out)
          have HSZ4 := hide (show sL (L ++ [t]) ≤ 300 * (L.length + 1) by have := HSZT.out; have := HSZ.out; rw [sL_app]; simp only [sL]; omega)
          clear hv4 hg4 h5 hm4 hown4 hall4
          go_wp2_with fail
          refine (HTK.out _ (HM4.out.pl HP0.out)).mono ?_
          rintro e w5 ⟨rfl, hm5⟩
          have M5 : Hid (Rv (w.alloc (.cells #[.int .i64 0, .string ⟨#[]⟩, .bool false, .slice none 0 0, .int .i64 0, .int .i64 0, .bool false, .slice none 0 0] 25)) w5 b zs (if false = true then tlC q else q)) := hide (HM4.out.trans hm5)
          have HROW5 := hide (own_rv HROW4.out hm5.1 (Nat.lt_succ_of_lt HBW.out))
          have HALL5 := hide (show (∀ x ∈ L ++ [t], (RxAt w5 x ∧ ∀ g, (Value.slice B (L ++ [t]).length d9).ownBlock = some g → Off g x) ∧ Fr (w.heap.size + 1) x) from fun x hx => ⟨⟨rx_kept (HALL4.out x hx).1.1 (HALL4.out x hx).2 (rv_kept hm5 (Nat.lt_succ_of_lt HBW.out)), (HALL4.out x hx).1.2⟩, (HALL4.out x hx).2⟩)
          clear hm5
          simp only [Bool.false_eq_true, if_false] at M5
          have HRES := hide (show altX (flK 1 (L ++ [t])) = altX (flK 1 Y) ∧ q = r from by
            rcases HCASE.out with ⟨_, h2, h3⟩ | ⟨h1, _⟩
            · rw [← HY.out, h2, ← HER.out, show L.map er ++ [er t] = (L ++ [t]).map er by simp, flK_er]; exact ⟨rfl, h3.symm⟩
            · rw [HQT.out] at h1; cases h1)
          have HSA := hide (raltf_any (N := w.heap.size + 1) (.slice B (L ++ [t]).length d9) (L ++ [t]) w5 (own_ksat HROW5.out) (fun i hi => (HALL5.out _ (List.getElem_mem hi)).1.1) (by have := HSZ4.out; have := HN1.out; omega) (fun i hi => (HALL5.out _ (List.getElem_mem hi)).2) (by have := M5.out.1.grown.size; simpa using this))
          unfold RsfPost at HSA
          rw [HLL.out] at HSA
          clear HCASE
          go_wp2_with fail
          refine HSA.out.mono ?_
          rintro e w2 ⟨u, rfl, hb2, hrx2, hu, hfr2⟩
          have M2 : Hid (Rv (w.alloc (.cells #[.int .i64 0, .string ⟨#[]⟩, .bool false, .slice none 0 0, .int .i64 0, .int .i64 0, .bool false, .slice none 0 0] 25)) w2 b zs q) := hide (M5.out.bl hb2)
          obtain ⟨z0, z1, z2, z3, z4, z5, z6, z7⟩ := (Z0.out.mv M2.out.1 HNB.out).eight
          have hf1 := (Z0.out.mv M2.out.1 HNB.out).f
          obtain ⟨uA, uc, hurv⟩ := rwat_len hrx2.rows
          obtain ⟨uB, ud, hukv⟩ := ksat_len hrx2.ks
          have HUV := hide (show u.v = .agg #[.int .i64 u.k, .string u.ch, .bool u.nt, .slice uA u.rows.length uc, .int .i64 u.mi, .int .i64 u.ma, .bool u.lz, .slice uB u.kids.length ud] by unfold Rt.v Rt.cs; rw [hurv, hukv])
          rw [HUV.out]
          have HRU := hide hrx2
          have HFU := hide hfr2
          have HU := hide hu
          clear hb2 hrx2 hfr2 hu hurv hukv
          go_wp2
          refine bodyPost_ret (v := .tuple #[.agg #[.int .i64 u.k, .string u.ch, .bool u.nt, .slice uA u.rows.length uc, .int .i64 u.mi, .int .i64 u.ma, .bool u.lz, .slice uB u.kids.length ud], .int .i64 0]) ?_ rfl ⟨u, by rw [HUV.out], (by rw [← HRES.out.2]; exact rv8 (HSELF.out.trans M2.out) HNB.out (Nat.le_refl _) _ _ _ _ _ _ _ _ _ _ _ _ _ _ _ _), rx_kept HRU.out HFU.out (kept8 _ (Nat.lt_succ_self _) _ _ _ _ _ _ _ _ _ _ _ _ _ _ _ _), HFU.out.mono (Nat.le_succ _), HU.out.trans HRES.out.1⟩
          rw [results_cell2 rfl]
          go_simp
        have hlt : k < N := by rw [split_cons h0, List.length_cons] at hk hle; omega
        have dk : decide ((k : Int) < (N : Int)) = true := decide_eq_true (by omega)
        have dk' : decide (k < N) = true := decide_eq_true (by omega)
        cases qt
        rotate_left
        · obtain ⟨yC, zC⟩ := lit_eq C #[124] true (by rw [hCd]; exact hqt)
          clear hqt hE h0 hCd hk hle hlt hxs
          go_wp2_with fail
          refine wp_region_later (by kernel_rfl) (by kernel_rfl) ?_
          repeat (go_big_quiet_step (first | (go_at_call 40; exact later_call (HSE.out _)) | exact rfl))
          refine wpQuiet_nil ?_
          rintro w9 ⟨⟨_, hb9⟩, rfl⟩
          have HMI9 := hide (HMI.out.bl hb9)
          have HSQ := hide (rseqf_any (N := wo.heap.size) (.slice A2 L2.length c2) L2 w9 (ksat_below (own_ksat HROW2.out) hb9) (fun i hi => rx_below (HALL2.out _ (List.getElem_mem hi)).1.1 hb9) (by have := HSZ2.out; have := HN2.out; omega) (fun i hi => (HALL2.out _ (List.getElem_mem hi)).2) HMI9.out.1.grown.size)
          unfold RsfPost at HSQ
          clear p1 p2 hbi hb9 dk dk'
          go_wp2_with fail
          refine HSQ.out.mono ?_
          rintro e w3 ⟨t, rfl, hb3, hrx, her, hfr⟩
          have HMI3 := hide (HMI9.out.bl hb3)
          have M3 : Hid (Rv (w.alloc (.cells #[.int .i64 0, .string ⟨#[]⟩, .bool false, .slice none 0 0, .int .i64 0, .int .i64 0, .bool false, .slice none 0 0] 25)) w3 b zs q) := hide (HM.out.trans HMI3.out)
          have HROW3 := hide (own_rv HROW.out HMI3.out.1 (Nat.lt_succ_of_lt HBW.out))
          have HER := hide (show er t = seqX (flK 0 X) by rw [← HX.out, flK_er]; exact her)
          have HFR := hide (hfr.mono HWW.out)
          have HOFF := hide (show ∀ g, (Value.slice A1 L.length c1).ownBlock = some g → Off g t from fun g hg => off_fr hfr (HG9.out g hg))
          have HALL3 := hide (show ∀ W, Below w3.heap.size w3 W → (∀ x ∈ L, (RxAt W x ∧ ∀ g, (Value.slice A1 L.length c1).ownBlock = some g → Off g x) ∧ Fr (w.heap.size + 1) x) from fun W hW x hx => ⟨⟨rx_below (rx_kept (HALL.out x hx).1.1 (HALL.out x hx).2 (rv_kept HMI3.out (Nat.lt_succ_of_lt HBW.out))) hW, (HALL.out x hx).1.2⟩, (HALL.out x hx).2⟩)
          obtain ⟨tA, tc, htrv⟩ := rwat_len hrx.rows
          obtain ⟨tB, td, htkv⟩ := ksat_len hrx.ks
          have HTV := hide (show t.v = .agg #[.int .i64 t.k, .string t.ch, .bool t.nt, .slice tA t.rows.length tc, .int .i64 t.mi, .int .i64 t.ma, .bool t.lz, .slice tB t.kids.length td] by unfold Rt.v Rt.cs; rw [htrv, htkv])
          have HCS := hide (show t.cs = [.int .i64 t.k, .string t.ch, .bool t.nt, .slice tA t.rows.length tc, .int .i64 t.mi, .int .i64 t.ma, .bool t.lz, .slice tB t.kids.length td] by unfold Rt.cs; rw [htrv, htkv])
          rw [HTV.out]
          have HRX := hide hrx
          have HONE := hide (show ∀ u ∈ ([.int .i64 t.k, .string t.ch, .bool t.nt, .slice tA t.rows.length tc, .int .i64 t.mi, .int .i64 t.ma, .bool t.lz, .slice tB t.kids.length td] : List Value), u.oneCell' = true by rw [← HCS.out]; intro u hu; exact one_cellX (w := w3) [t] (fun x hx => by obtain rfl : x = t := (by simpa using hx); exact HRX.out) u (by simpa [flatX] using hu))
          have HOWN := hide (fun (W : World) (hb : Below w3.heap.size w3 W) => own_below HROW3.out hb)
          have HB3 := hide (show w.heap.size + 1 ≤ w3.heap.size from Nat.le_trans HWW.out HMI3.out.1.grown.size)
          have HBB := hide (bl_alloc (bl_refl w3) (.cells #[.int .i64 t.k, .string t.ch, .bool t.nt, .slice tA t.rows.length tc, .int .i64 t.mi, .int .i64 t.ma, .bool t.lz, .slice tB t.kids.length td] 25))
          clear hb3 hrx hfr her htrv htkv
          go_wp2_with (at_builtin; go_must (refine wpList_src5 _ rfl _ _ 23 rfl (w.heap.size + 1) 25 i0 rt0.v 8 104 Tryz.underlying23 hi0 hz0' hz1 hz2 rfl (by decide) (.slice A1 L.length c1) L.length (flatX L) rfl (HOWN.out _ HBB.out) (some ⟨_, 0, none⟩) 1 1 [.int .i64 t.k, .string t.ch, .bool t.nt, .slice tA t.rows.length tc, .int .i64 t.mi, .int .i64 t.ma, .bool t.lz, .slice tB t.kids.length td] rfl (src_block (cs := #[.int .i64 t.k, .string t.ch, .bool t.nt, .slice tA t.rows.length tc, .int .i64 t.mi, .int .i64 t.ma, .bool t.lz, .slice tB t.kids.length td]) (heap_new (by simp)) rfl) HONE.out (by have := HN1.out; have := HN2.out; omega) (by decide) (Nat.le_trans HB3.out HBB.out.size) ?_); intro v' w19 hv4 hg4 h5)
          rw [← HCS.out] at hv4
          obtain ⟨B, d9, rfl, hown4, hall4⟩ := row_step (HALL3.out _ HBB.out) (rx_below HRX.out HBB.out) HFR.out HOFF.out hv4 hg4 h5
          have hm4 := (M3.out.bl HBB.out).appendv (HOWN.out _ HBB.out) hg4 (Nat.lt_succ_of_lt HBW.out) (by simp)
          have HM4 := hide hm4
          have HROW4 := hide hown4
          have HALL4 := hide hall4
          have HLL := hide (show (L ++ [t]).length = L.length + 1 by simp)
          have HSZT := hide (show sM t ≤ 300 by rw [← sM_er, HER.out]; exact HSX.out)
          have HSZ4 := hide (show sL (L ++ [t]) ≤ 300 * (L.length + 1) by have := HSZT.out; have := HSZ.out; rw [sL_app]; simp only [sL]; omega)
          clear hv4 hg4 h5 hm4 hown4 hall4
          go_wp2_with fail
          refine (HTK.out _ (HM4.out.pl HP0.out)).mono ?_
          rintro e w5 ⟨rfl, hm5⟩
          have M5 : Hid (Rv (w.alloc (.cells #[.int .i64 0, .string ⟨#[]⟩, .bool false, .slice none 0 0, .int .i64 0, .int .i64 0, .bool false, .slice none 0 0] 25)) w5 b zs (if true = true then tlC q else q)) := hide (HM4.out.trans hm5)
          have HROW5 := hide (own_rv HROW4.out hm5.1 (Nat.lt_succ_of_lt HBW.out))
          have HALL5 := hide (show (∀ x ∈ L ++ [t], (RxAt w5 x ∧ ∀ g, (Value.slice B (L ++ [t]).length d9).ownBlock = some g → Off g x) ∧ Fr (w.heap.size + 1) x) from fun x hx => ⟨⟨rx_kept (HALL4.out x hx).1.1 (HALL4.out x hx).2 (rv_kept hm5 (Nat.lt_succ_of_lt HBW.out)), (HALL4.out x hx).1.2⟩, (HALL4.out x hx).2⟩)
          clear hm5
          simp only [if_true] at M5
          have HTS := hide (show (tlC q).length < q.length from hd_ne HQT.out)
          have HNX := hide (show ∃ ys', (L ++ [t]).map er ++ ys' = Y ∧ AsR T (tlC q) ys' r from by
            rcases HCASE.out with ⟨h1, _⟩ | ⟨_, ys', h2, h3, h4⟩
            · rw [HQT.out] at h1; cases h1
            · exact ⟨ys', by rw [← HY.out, h2, ← HER.out]; simp, h4⟩)
          obtain ⟨ys', hy1, hy2⟩ := HNX.out
          have HY1 := hide hy1
          have HY2 := hide hy2
          clear hy1 hy2 HNX
          have HLEN := hide (show Value.slice B (L.length + 1) d9 = .slice B (L ++ [t]).length d9 by rw [HLL.out])
          have HNL := hide (show (L ++ [t]).length + (tlC q).length ≤ 256 by have := HL21.out; have := HTS.out; have := HN1.out; rw [HLL.out]; omega)
          have HSZ5 := hide (show sL (L ++ [t]) ≤ 300 * (L ++ [t]).length by rw [HLL.out]; exact HSZ4.out)
          have HMS := hide (show zs.length - posOf w5 b < zs.length - posOf wo b by rw [posOf_rv M5.out, posOf_rv HM.out]; have := spl_lt HM.out.2 M5.out.2 (by have := HL21.out; have := HTS.out; omega); have := HPL.out.le; omega)
          go_wp2
          refine ⟨?_, HMS.out⟩
          first
            | exact ⟨L ++ [t], tlC q, ys', B, d9, HLEN.out, HROW5, M5, HY1, HY2, HNL.out, HSZ5, HALL5⟩
            | ((repeat apply Exists.intro); exact ⟨⟨L ++ [t], tlC q, ys', B, d9, HLEN.out, HROW5, M5, HY1, HY2, HNL.out, HSZ5, HALL5⟩, rfl⟩)
        have h41 : (hdC q == [41]) = true := by
          unfold endB at hE
          cases q with
          | nil => exact absurd rfl h0
          | cons a s => rw [hqt] at hE; simpa using hE
        obtain ⟨yC, zC⟩ := lit_eq C #[124] false (by rw [hCd]; exact hqt)
        obtain ⟨yD, zD⟩ := lit_eq C #[41] true (by rw [hCd]; exact h41)
        clear hqt hE h0 hCd hk hle hlt hxs h41
        go_wp2_with fail
        refine wp_region_later (by kernel_rfl) (by kernel_rfl) ?_
        repeat (go_big_quiet_step (first | (go_at_call 40; exact later_call (HSE.out _)) | exact rfl))
        refine wpQuiet_nil ?_
        rintro w9 ⟨⟨_, hb9⟩, rfl⟩
        have HMI9 := hide (HMI.out.bl hb9)
        have HSQ := hide (rseqf_any (N := wo.heap.size) (.slice A2 L2.length c2) L2 w9 (ksat_below (own_ksat HROW2.out) hb9) (fun i hi => rx_below (HALL2.out _ (List.getElem_mem hi)).1.1 hb9) (by have := HSZ2.out; have := HN2.out; omega) (fun i hi => (HALL2.out _ (List.getElem_mem hi)).2) HMI9.out.1.grown.size)
        unfold RsfPost at HSQ
        clear p1 p2 hbi hb9 dk dk'
        go_wp2_with fail
        refine HSQ.out.mono ?_
        rintro e w3 ⟨t, rfl, hb3, hrx, her, hfr⟩
        have HMI3 := hide (HMI9.out.bl hb3)
        have M3 : Hid (Rv (w.alloc (.cells #[.int .i64 0, .string ⟨#[]⟩, .bool false, .slice none 0 0, .int .i64 0, .int .i64 0, .bool false, .slice none 0 0] 25)) w3 b zs q) := hide (HM.out.trans HMI3.out)
        have HROW3 := hide (own_rv HROW.out HMI3.out.1 (Nat.lt_succ_of_lt HBW.out))
        have HER := hide (show er t = seqX (flK 0 X) by rw [← HX.out, flK_er]; exact her)
        have HFR := hide (hfr.mono HWW.out)
        have HOFF := hide (show ∀ g, (Value.slice A1 L.length c1).ownBlock = some g → Off g t from fun g hg => off_fr hfr (HG9.out g hg))
        have HALL3 := hide (show ∀ W, Below w3.heap.size w3 W → (∀ x ∈ L, (RxAt W x ∧ ∀ g, (Value.slice A1 L.length c1).ownBlock = some g → Off g x) ∧ Fr (w.heap.size + 1) x) from fun W hW x hx => ⟨⟨rx_below (rx_kept (HALL.out x hx).1.1 (HALL.out x hx).2 (rv_kept HMI3.out (Nat.lt_succ_of_lt HBW.out))) hW, (HALL.out x hx).1.2⟩, (HALL.out x hx).2⟩)
        obtain ⟨tA, tc, htrv⟩ := rwat_len hrx.rows
        obtain ⟨tB, td, htkv⟩ := ksat_len hrx.ks
        have HTV := hide (show t.v = .agg #[.int .i64 t.k, .string t.ch, .bool t.nt, .slice tA t.rows.length tc, .int .i64 t.mi, .int .i64 t.ma, .bool t.lz, .slice tB t.kids.length td] by unfold Rt.v Rt.cs; rw [htrv, htkv])
        have HCS := hide (show t.cs = [.int .i64 t.k, .string t.ch, .bool t.nt, .slice tA t.rows.length tc, .int .i64 t.mi, .int .i64 t.ma, .bool t.lz, .slice tB t.kids.length td] by unfold Rt.cs; rw [htrv, htkv])
        rw [HTV.out]
        have HRX := hide hrx
        have HONE := hide (show ∀ u ∈ ([.int .i64 t.k, .string t.ch, .bool t.nt, .slice tA t.rows.length tc, .int .i64 t.mi, .int .i64 t.ma, .bool t.lz, .slice tB t.kids.length td] : List Value), u.oneCell' = true by rw [← HCS.out]; intro u hu; exact one_cellX (w := w3) [t] (fun x hx => by obtain rfl : x = t := (by simpa using hx); exact HRX.out) u (by simpa [flatX] using hu))
        have HOWN := hide (fun (W : World) (hb : Below w3.heap.size w3 W) => own_below HROW3.out hb)
        have HB3 := hide (show w.heap.size + 1 ≤ w3.heap.size from Nat.le_trans HWW.out HMI3.out.1.grown.size)
        have HBB := hide (bl_alloc (bl_refl w3) (.cells #[.int .i64 t.k, .string t.ch, .bool t.nt, .slice tA t.rows.length tc, .int .i64 t.mi, .int .i64 t.ma, .bool t.lz, .slice tB t.kids.length td] 25))
        clear hb3 hrx hfr her htrv htkv
        go_wp2_with (at_builtin; go_must (refine wpList_src5 _ rfl _ _ 23 rfl (w.heap.size + 1) 25 i0 rt0.v 8 104 Tryz.underlying23 hi0 hz0' hz1 hz2 rfl (by decide) (.slice A1 L.length c1) L.length (flatX L) rfl (HOWN.out _ HBB.out) (some ⟨_, 0, none⟩) 1 1 [.int .i64 t.k, .string t.ch, .bool t.nt, .slice tA t.rows.length tc, .int .i64 t.mi, .int .i64 t.ma, .bool t.lz, .slice tB t.kids.length td] rfl (src_block (cs := #[.int .i64 t.k, .string t.ch, .bool t.nt, .slice tA t.rows.length tc, .int .i64 t.mi, .int .i64 t.ma, .bool t.lz, .slice tB t.kids.length td]) (heap_new (by simp)) rfl) HONE.out (by have := HN1.out; have := HN2.out; omega) (by decide) (Nat.le_trans HB3.out HBB.out.size) ?_); intro v' w19 hv4 hg4 h5)
        rw [← HCS.out] at hv4
        obtain ⟨B, d9, rfl, hown4, hall4⟩ := row_step (HALL3.out _ HBB.out) (rx_below HRX.out HBB.out) HFR.out HOFF.out hv4 hg4 h5
        have hm4 := (M3.out.bl HBB.out).appendv (HOWN.out _ HBB.out) hg4 (Nat.lt_succ_of_lt HBW.out) (by simp)
        have HM4 := hide hm4
        have HROW4 := hide hown4
        have HALL4 := hide hall4
        have HLL := hide (show (L ++ [t]).length = L.length + 1 by simp)
        have HSZT := hide (show sM t ≤ 300 by rw [← sM_er, HER.out]; exact HSX.out)
        have HSZ4 := hide (show sL (L ++ [t]) ≤ 300 * (L.length + 1) by have := HSZT.out; have := HSZ.out; rw [sL_app]; simp only [sL]; omega)
        clear hv4 hg4 h5 hm4 hown4 hall4
        go_wp2_with fail
        refine (HTK.out _ (HM4.out.pl HP0.out)).mono ?_
        rintro e w5 ⟨rfl, hm5⟩
        have M5 : Hid (Rv (w.alloc (.cells #[.int .i64 0, .string ⟨#[]⟩, .bool false, .slice none 0 0, .int .i64 0, .int .i64 0, .bool false, .slice none 0 0] 25)) w5 b zs (if false = true then tlC q else q)) := hide (HM4.out.trans hm5)
        have HROW5 := hide (own_rv HROW4.out hm5.1 (Nat.lt_succ_of_lt HBW.out))
        have HALL5 := hide (show (∀ x ∈ L ++ [t], (RxAt w5 x ∧ ∀ g, (Value.slice B (L ++ [t]).length d9).ownBlock = some g → Off g x) ∧ Fr (w.heap.size + 1) x) from fun x hx => ⟨⟨rx_kept (HALL4.out x hx).1.1 (HALL4.out x hx).2 (rv_kept hm5 (Nat.lt_succ_of_lt HBW.out)), (HALL4.out x hx).1.2⟩, (HALL4.out x hx).2⟩)
        clear hm5
        simp only [Bool.false_eq_true, if_false] at M5
        have HRES := hide (show altX (flK 1 (L ++ [t])) = altX (flK 1 Y) ∧ q = r from by
          rcases HCASE.out with ⟨_, h2, h3⟩ | ⟨h1, _⟩
          · rw [← HY.out, h2, ← HER.out, show L.map er ++ [er t] = (L ++ [t]).map er by simp, flK_er]; exact ⟨rfl, h3.symm⟩
          · rw [HQT.out] at h1; cases h1)
        have HSA := hide (raltf_any (N := w.heap.size + 1) (.slice B (L ++ [t]).length d9) (L ++ [t]) w5 (own_ksat HROW5.out) (fun i hi => (HALL5.out _ (List.getElem_mem hi)).1.1) (by have := HSZ4.out; have := HN1.out; omega) (fun i hi => (HALL5.out _ (List.getElem_mem hi)).2) (by have := M5.out.1.grown.size; simpa using this))
        unfold RsfPost at HSA
        rw [HLL.out] at HSA
        clear HCASE
        go_wp2_with fail
        refine HSA.out.mono ?_
        rintro e w2 ⟨u, rfl, hb2, hrx2, hu, hfr2⟩
        have M2 : Hid (Rv (w.alloc (.cells #[.int .i64 0, .string ⟨#[]⟩, .bool false, .slice none 0 0, .int .i64 0, .int .i64 0, .bool false, .slice none 0 0] 25)) w2 b zs q) := hide (M5.out.bl hb2)
        obtain ⟨z0, z1, z2, z3, z4, z5, z6, z7⟩ := (Z0.out.mv M2.out.1 HNB.out).eight
        have hf1 := (Z0.out.mv M2.out.1 HNB.out).f
        obtain ⟨uA, uc, hurv⟩ := rwat_len hrx2.rows
        obtain ⟨uB, ud, hukv⟩ := ksat_len hrx2.ks
        have HUV := hide (show u.v = .agg #[.int .i64 u.k, .string u.ch, .bool u.nt, .slice uA u.rows.length uc, .int .i64 u.mi, .int .i64 u.ma, .bool u.lz, .slice uB u.kids.length ud] by unfold Rt.v Rt.cs; rw [hurv, hukv])
        rw [HUV.out]
        have HRU := hide hrx2
        have HFU := hide hfr2
        have HU := hide hu
        clear hb2 hrx2 hfr2 hu hurv hukv
        go_wp2
        refine bodyPost_ret (v := .tuple #[.agg #[.int .i64 u.k, .string u.ch, .bool u.nt, .slice uA u.rows.length uc, .int .i64 u.mi, .int .i64 u.ma, .bool u.lz, .slice uB u.kids.length ud], .int .i64 0]) ?_ rfl ⟨u, by rw [HUV.out], (by rw [← HRES.out.2]; exact rv8 (HSELF.out.trans M2.out) HNB.out (Nat.le_refl _) _ _ _ _ _ _ _ _ _ _ _ _ _ _ _ _), rx_kept HRU.out HFU.out (kept8 _ (Nat.lt_succ_self _) _ _ _ _ _ _ _ _ _ _ _ _ _ _ _ _), HFU.out.mono (Nat.le_succ _), HU.out.trans HRES.out.1⟩
        rw [results_cell2 rfl]
        go_simp
      · have hb1 := hE
        have h0 : l2 ≠ [] := by rintro rfl; cases hE
        have hlt : k < N := by rw [split_cons h0, List.length_cons] at hk hle; omega
        have dk : decide ((k : Int) < (N : Int)) = true := decide_eq_true (by omega)
        have dk' : decide (k < N) = true := decide_eq_true (by omega)
        have HT := hide (fun W (hp : Rp W b A c zs l2) => HTM.out W l2 x l' htx hp)
        unfold endB at hb1
        have k1 : (hdC l2 == [124]) = false := by cases q : (hdC l2 == [124]) <;> simp [q] at hb1 ⊢
        have k2 : (hdC l2 == [41]) = false := by cases q : (hdC l2 == [41]) <;> simp [q] at hb1 ⊢
        obtain ⟨yC, zC⟩ := lit_eq C #[124] false (by rw [hCd]; exact k1)
        obtain ⟨yD, zD⟩ := lit_eq C #[41] false (by rw [hCd]; exact k2)
        have HXX := hide (show L2.map er ++ x :: xs' = X by have := HXS.out; rw [hxs] at this; exact this)
        have HSM := hide hsx
        have HLX := hide hlx
        have HTR := hide htr
        clear hE hb1 h0 hCd hk hle hlt k1 k2 hxs htx hsx hlx htr
        go_wp2_with fail
        refine wp_region_later (by kernel_rfl) (by kernel_rfl) ?_
        repeat (go_big_quiet_step (first | (go_at_call 40; exact later_call (HSE.out _)) | exact rfl))
        refine wpQuiet_nil ?_
        rintro w9 ⟨⟨_, hb9⟩, rfl⟩
        have HMI9 := hide (HMI.out.bl hb9)
        have HROW9 := hide (own_below HROW2.out hb9)
        have HG29 := hide (show ∀ g, (Value.slice A2 L2.length c2).ownBlock = some g → g < w9.heap.size from fun g hg => Nat.lt_of_lt_of_le (HROW2.out.lt g hg).2 hb9.size)
        have HALL9 := hide (show (∀ x ∈ L2, (RxAt w9 x ∧ ∀ g, (Value.slice A2 L2.length c2).ownBlock = some g → Off g x) ∧ Fr wo.heap.size x) from fun x hx => ⟨⟨rx_below (HALL2.out x hx).1.1 hb9, (HALL2.out x hx).1.2⟩, (HALL2.out x hx).2⟩)
        clear p1 p2 hbi hb9 dk dk'
        go_wp2_with fail
        refine (HT.out _ (HMI9.out.pl HPL.out)).mono ?_
        rintro e w3 ⟨t, rfl, hm3, hrx, hfr, her⟩
        have HER := hide her
        have HMI3 := hide (HMI9.out.trans hm3)
        have HROW3 := hide (own_rv HROW9.out hm3.1 HBR.out)
        have HFR := hide (hfr.mono HMI9.out.1.grown.size)
        have HOFF := hide (show ∀ g, (Value.slice A2 L2.length c2).ownBlock = some g → Off g t from fun g hg => off_fr hfr (HG29.out g hg))
        have HALL3 := hide (show ∀ W, Below w3.heap.size w3 W → (∀ x ∈ L2, (RxAt W x ∧ ∀ g, (Value.slice A2 L2.length c2).ownBlock = some g → Off g x) ∧ Fr wo.heap.size x) from fun W hW x hx => ⟨⟨rx_below (rx_kept (HALL9.out x hx).1.1 (HALL9.out x hx).2 (rv_kept hm3 HBR.out)) hW, (HALL9.out x hx).1.2⟩, (HALL9.out x hx).2⟩)
        obtain ⟨tA, tc, htrv⟩ := rwat_len hrx.rows
        obtain ⟨tB, td, htkv⟩ := ksat_len hrx.ks
        have HTV := hide (show t.v = .agg #[.int .i64 t.k, .string t.ch, .bool t.nt, .slice tA t.rows.length tc, .int .i64 t.mi, .int .i64 t.ma, .bool t.lz, .slice tB t.kids.length td] by unfold Rt.v Rt.cs; rw [htrv, htkv])
        have HCS := hide (show t.cs = [.int .i64 t.k, .string t.ch, .bool t.nt, .slice tA t.rows.length tc, .int .i64 t.mi, .int .i64 t.ma, .bool t.lz, .slice tB t.kids.length td] by unfold Rt.cs; rw [htrv, htkv])
        rw [HTV.out]
        have HRX := hide hrx
        have HONE := hide (show ∀ u ∈ ([.int .i64 t.k, .string t.ch, .bool t.nt, .slice tA t.rows.length tc, .int .i64 t.mi, .int .i64 t.ma, .bool t.lz, .slice tB t.kids.length td] : List Value), u.oneCell' = true by rw [← HCS.out]; intro u hu; exact one_cellX (w := w3) [t] (fun x hx => by obtain rfl : x = t := (by simpa using hx); exact HRX.out) u (by simpa [flatX] using hu))
        have HOWN := hide (fun (W : World) (hb : Below w3.heap.size w3 W) => own_below HROW3.out hb)
        have HB3 := hide (show wo.heap.size ≤ w3.heap.size from HMI3.out.1.grown.size)
        have HBB := hide (bl_alloc (bl_alloc (bl_refl w3) (.cells #[.int .i64 t.k, .string t.ch, .bool t.nt, .slice tA t.rows.length tc, .int .i64 t.mi, .int .i64 t.ma, .bool t.lz, .slice tB t.kids.length td] 25)) (.cells #[.int .i64 t.k, .string t.ch, .bool t.nt, .slice tA t.rows.length tc, .int .i64 t.mi, .int .i64 t.ma, .bool t.lz, .slice tB t.kids.length td] 25))
        clear hm3 hrx hfr htrv htkv her
        go_wp2_with (at_builtin; go_must (refine wpList_src5 _ rfl _ _ 23 rfl (wo.heap.size) 25 i0 rt0.v 8 104 Tryz.underlying23 hi0 hz0' hz1 hz2 rfl (by decide) (.slice A2 L2.length c2) L2.length (flatX L2) rfl (HOWN.out _ HBB.out) (some ⟨_, 0, none⟩) 1 1 [.int .i64 t.k, .string t.ch, .bool t.nt, .slice tA t.rows.length tc, .int .i64 t.mi, .int .i64 t.ma, .bool t.lz, .slice tB t.kids.length td] rfl (src_block (cs := #[.int .i64 t.k, .string t.ch, .bool t.nt, .slice tA t.rows.length tc, .int .i64 t.mi, .int .i64 t.ma, .bool t.lz, .slice tB t.kids.length td]) (heap_new (by simp)) rfl) HONE.out (by have := HN1.out; have := HN2.out; omega) (by decide) (Nat.le_trans HB3.out HBB.out.size) ?_); intro v' w19 hv4 hg4 h5)
        rw [← HCS.out] at hv4
        obtain ⟨B, d9, rfl, hown4, hall4⟩ := row_step (HALL3.out _ HBB.out) (rx_below HRX.out HBB.out) HFR.out HOFF.out hv4 hg4 h5
        have hm4 := (HMI3.out.bl HBB.out).appendv (HOWN.out _ HBB.out) hg4 HBR.out (Nat.le_refl _)
        have HM4 := hide hm4
        have HROW4 := hide hown4
        have HALL4 := hide hall4
        have HLEN := hide (show Value.slice B (L2.length + 1) d9 = .slice B (L2 ++ [t]).length d9 by rw [List.length_append]; rfl)
        have HX4 := hide (show (L2 ++ [t]).map er ++ xs' = X by rw [← HXX.out, ← HER.out]; simp)
        have HNL := hide (show (L2 ++ [t]).length + l'.length ≤ 256 ∧ l'.length ≤ l1.length by have := HLX.out; have := HN2.out; have := HL21.out; rw [List.length_append]; simp only [List.length_cons, List.length_nil]; omega)
        have HSZ4 := hide (show sL (L2 ++ [t]) ≤ 100 * (L2 ++ [t]).length by have h1 : sM t ≤ 100 := by rw [← sM_er, HER.out]; exact HSM.out
                                                                             have := HSZ2.out; rw [sL_app, List.length_append]; simp only [sL, List.length_cons, List.length_nil]; omega)
        have HMS := hide (show zs.length - posOf w19 b < zs.length - posOf wr b by rw [posOf_rv hm4, posOf_rv HMI.out]; have := spl_lt HMI.out.2 hm4.2 HLX.out; have := HPI.out.le; omega)
        clear hv4 hg4 h5 hm4 hown4 hall4
        go_wp2
        refine ⟨?_, HMS.out⟩
        first
          | exact ⟨L2 ++ [t], l', xs', B, d9, HLEN.out, HROW4, HM4, HX4, HTR, HNL.out.1, HSZ4, HNL.out.2, HALL4⟩
          | ((repeat apply Exists.intro); exact ⟨⟨L2 ++ [t], l', xs', B, d9, HLEN.out, HROW4, HM4, HX4, HTR, HNL.out.1, HSZ4, HNL.out.2, HALL4⟩, rfl⟩)
end Go.Proofs.YtcnliipkfccohabGreat
end
section
namespace Go.Proofs.YtcnliipkfccohabGreat
open Go.ChangeShapes Go.WideShapes Go.ChangeAt Go.RowKit
open SetM
attribute [local go_sem ↓] Go.wp_at_zero Go.wp_at_succ
set_option maxRecDepth 100000
set_option linter.unusedVariables false
attribute [local go_sem] later_cell later_frozen
set_option maxHeartbeats 16000000 in
theorem mk_read (s : ByteArray) (hs : s.size ≤ 256) (w : World) (x : Rt)
    (HPT : ∀ (W : World) (A : Option Addr) (c : Nat) (zs : List ByteArray) (n : Nat), Rp W n A c zs s.data.toList → Calls Tryz.prog 25 #[.pointer (some ⟨n, 0, none⟩), .int .i64 0] W (RkPost W.heap.size W n zs x [])) :
    Calls Tryz.prog 13 #[.string s] w fun e w' => ∃ t, e = .returned (.tuple #[t.v, .int .i64 0]) ∧ Below w.heap.size w w' ∧ RxAt w' t ∧ er t = x := by
  have hl : s.data.toList.length = s.size := Array.length_toList
  have g1 : decide (256 < s.size) = false := decide_eq_false (by omega)
  have g1' : decide (256 < (s.size : Int)) = false := decide_eq_false (by omega)
  have HSP := hide (fun W => rsplit_any s W (by omega))
  unfold SPost at HSP
  have HPT := hide HPT
  have HRN := hide (fun (W : World) (base : Nat) (A : Option Addr) (c : Nat) (zs : List ByteArray) (ho : W.ownsRow base 9 1 (.slice A zs.length c) zs.length (zs.map .string)) hz => rp_new (s := s) hs ho hz)
  have Z0 := hide (show Cl (w.alloc (.cells #[.int .i64 0, .string ⟨#[]⟩, .bool false, .slice none 0 0, .int .i64 0, .int .i64 0, .bool false, .slice none 0 0] 25)) w.heap.size [.int .i64 0, .string ⟨#[]⟩, .bool false, .slice none 0 0, .int .i64 0, .int .i64 0, .bool false, .slice none 0 0] from cl_alloc w [.int .i64 0, .string ⟨#[]⟩, .bool false, .slice none 0 0, .int .i64 0, .int .i64 0, .bool false, .slice none 0 0] _)
  clear hl hs
  go_enter Tryz.func13, Tryz.ntmps13
  go_wp2_with fail
  refine (HSP.out _).mono ?_
  rintro e w1 ⟨v, zs, rfl, hb1, hown, hzs⟩
  obtain ⟨A, c, rfl⟩ := own_slice hown
  have RP := hide (HRN.out _ _ _ _ _ hown hzs.out)
  have Z1 := hide ((Z0.out.bl hb1).bl (bl_alloc (bl_refl w1) (.cells #[.slice A zs.length c, .int .i64 0] 67)))
  have hw1 : w.heap.size < w1.heap.size := by have := hb1.size; simp at this; omega
  have HW1 := hide hw1
  have HN1 := hide (show w.heap.size ≠ w1.heap.size by omega)
  have HB1 := hide (bl_alloc (bl_trans (bl_alloc (bl_refl w) _) hb1) (.cells #[.slice A zs.length c, .int .i64 0] 67))
  clear hb1 hown hw1
  go_wp2_with fail
  refine (HPT.out _ _ _ _ _ RP.out).mono ?_
  rintro e w3 ⟨t, rfl, hm3, hrx, hfr, her⟩
  have HER := hide her
  obtain ⟨tA, tc, htrv⟩ := rwat_len hrx.rows
  obtain ⟨tB, td, htkv⟩ := ksat_len hrx.ks
  have HTV := hide (show t.v = .agg #[.int .i64 t.k, .string t.ch, .bool t.nt, .slice tA t.rows.length tc, .int .i64 t.mi, .int .i64 t.ma, .bool t.lz, .slice tB t.kids.length td] by unfold Rt.v Rt.cs; rw [htrv, htkv])
  rw [HTV.out]
  have HRX := hide hrx
  have HRP3 := hm3.pl RP.out
  have p1 := HRP3.row
  have p2 := HRP3.pos
  have hn3 : w1.heap.size < w3.heap.size := HRP3.lt
  have hn4 : w1.heap.size ≠ w3.heap.size := Nat.ne_of_lt hn3
  rw [split_nil, List.length_nil, Nat.sub_zero] at p2
  obtain ⟨N, hN⟩ : ∃ N, zs.length = N := ⟨_, rfl⟩
  rw [hN] at p1 p2
  have dk : decide ((N : Int) < (N : Int)) = false := decide_eq_false (by omega)
  have dk' : decide (N < N) = false := decide_eq_false (by omega)
  have HZ3 := hide (Z1.out.mv hm3.1 HN1.out)
  have K3 := hide (show Cl (w3.alloc (.cells #[.int .i64 t.k, .string t.ch, .bool t.nt, .slice tA t.rows.length tc, .int .i64 t.mi, .int .i64 t.ma, .bool t.lz, .slice tB t.kids.length td] 25)) w3.heap.size [.int .i64 t.k, .string t.ch, .bool t.nt, .slice tA t.rows.length tc, .int .i64 t.mi, .int .i64 t.ma, .bool t.lz, .slice tB t.kids.length td] from cl_alloc w3 [.int .i64 t.k, .string t.ch, .bool t.nt, .slice tA t.rows.length tc, .int .i64 t.mi, .int .i64 t.ma, .bool t.lz, .slice tB t.kids.length td] _)
  have HB2 := hide (mvd_below HB1.out hm3.1 (Nat.le_of_lt HW1.out))
  have HB3 := hide (bl_alloc HB2.out (.cells #[.int .i64 t.k, .string t.ch, .bool t.nt, .slice tA t.rows.length tc, .int .i64 t.mi, .int .i64 t.ma, .bool t.lz, .slice tB t.kids.length td] 25))
  have HFR := hide (hfr.mono (show w.heap.size + 1 ≤ (w1.alloc (.cells #[.slice A zs.length c, .int .i64 0] 67)).heap.size by have := HW1.out; simp; omega))
  have hz3 : w.heap.size < w3.heap.size := HZ3.out.s
  have hzn : w.heap.size ≠ w3.heap.size := Nat.ne_of_lt hz3
  clear hm3 hrx hfr her htrv htkv HRP3 hN
  obtain ⟨k0, k1, k2, k3, k4, k5, k6, k7⟩ := K3.out.eight
  obtain ⟨z0, z1, z2, z3, z4, z5, z6, z7⟩ := (HZ3.out).eight
  have hf1 := (HZ3.out).f
  go_wp2
  go_quiet (fail)
  go_wp2
  refine bodyPost_ret (v := .tuple #[.agg #[.int .i64 t.k, .string t.ch, .bool t.nt, .slice tA t.rows.length tc, .int .i64 t.mi, .int .i64 t.ma, .bool t.lz, .slice tB t.kids.length td], .int .i64 0]) ?_ rfl ⟨t, by rw [HTV.out], bl8 (bl_drewN HB3.out _) (Nat.le_refl _) _ _ _ _ _ _ _ _ _ _ _ _ _ _ _ _, rx_kept (rx_below (rx_below HRX.out (bl_alloc (bl_refl _) _)) (bl_drewN (bl_refl _) _)) HFR.out (kept8 _ (Nat.lt_succ_self _) _ _ _ _ _ _ _ _ _ _ _ _ _ _ _ _), HER.out⟩
  rw [results_cell2 rfl]
  go_simp
end Go.Proofs.YtcnliipkfccohabGreat
end
section
namespace Go.Proofs.YtcnliipkfccohabGreat
open SetM
open Go.ChangeShapes Go.WideShapes Go.ChangeAt Go.RowKit
set_option maxRecDepth 100000
set_option linter.unusedVariables false
def tRep : Rt := .mk 7 ⟨#[]⟩ false (.slice none 0 0) [] 0 (-1) true (.slice none 0 0) [chX ⟨#[97]⟩]
def tGrp : Rt := .mk 5 ⟨#[]⟩ false (.slice none 0 0) [] 0 0 false (.slice none 0 0) [chX ⟨#[97]⟩]
def tA : Rt := kdX 0 [tRep, chX ⟨#[98]⟩]
def tB : Rt := kdX 1 [tGrp, chX ⟨#[98]⟩]
theorem flk_a : altX (flK 1 [seqX (flK 0 [tRep, chX ⟨#[98]⟩])]) = tA := rfl
theorem flk_b1 : altX (flK 1 [seqX (flK 0 [chX ⟨#[97]⟩])]) = chX ⟨#[97]⟩ := rfl
theorem flk_b : altX (flK 1 [seqX (flK 0 [tGrp]), seqX (flK 0 [chX ⟨#[98]⟩])]) = tB := rfl
theorem sz_rep : sM tRep ≤ 100 := by simp only [tRep, chX, sM, sL]; decide
theorem sz_grp : sM tGrp ≤ 100 := by simp only [tGrp, chX, sM, sL]; decide
theorem sz_chr (c : ByteArray) (h : c.size ≤ 1) : sM (chX c) ≤ 100 := by simp only [chX, sM, sL, rwS]; omega
theorem sz_a : sM (seqX (flK 0 [tRep, chX ⟨#[98]⟩])) ≤ 300 := by
  rw [show seqX (flK 0 [tRep, chX ⟨#[98]⟩]) = tA from rfl]; simp only [tA, kdX, tRep, chX, sM, sL]; decide
theorem sz_b1 : sM (seqX (flK 0 [chX ⟨#[97]⟩])) ≤ 300 := by
  rw [show seqX (flK 0 [chX ⟨#[97]⟩]) = chX ⟨#[97]⟩ from rfl]; simp only [chX, sM, sL]; decide
theorem sz_b2 : sM (seqX (flK 0 [tGrp])) ≤ 300 := by
  rw [show seqX (flK 0 [tGrp]) = tGrp from rfl]; simp only [tGrp, chX, sM, sL]; decide
theorem sz_b3 : sM (seqX (flK 0 [chX ⟨#[98]⟩])) ≤ 300 := by
  rw [show seqX (flK 0 [chX ⟨#[98]⟩]) = chX ⟨#[98]⟩ from rfl]; simp only [chX, sM, sL]; decide
theorem mk_plain {w : World} {b : Nat} {A : Option Addr} {c : Nat} {zs : List ByteArray} {l : List UInt8} (h : Rp w b A c zs l) (d : Nat) (y : UInt8) (hy : hdC l = [y]) (r : List UInt8) (hr : tlC l = r) (h1 : y = 97 ∨ y = 98) (hs : ∀ z ∈ ([42, 43, 63, 123] : List UInt8), (hdC r == [z]) = false) :
    Calls Tryz.prog 41 #[.pointer (some ⟨b, 0, none⟩), .int .i64 (d : Int)] w (RkPost w.heap.size w b zs (chX ⟨#[y]⟩) r) := by
  refine mk_term h d ?_ ?_ ?_ (chX ⟨#[y]⟩) (chX ⟨#[y]⟩) r r (fun W hp => ?_) (fun W N hp hb hN t ht hf her => ?_)
  · rw [hy]; rcases h1 with rfl | rfl <;> decide
  · rw [hy]; rcases h1 with rfl | rfl <;> decide
  · rw [hy]; rcases h1 with rfl | rfl <;> decide
  · rw [← hr]
    exact mk_char hp y hy (by rcases h1 with rfl | rfl <;> decide) (by rcases h1 with rfl | rfl <;> decide) d
  · rw [← her]
    exact mk_times_no hp hb hN t ht hf hs
theorem read_a (w : World) : Calls Tryz.prog 13 #[.string ⟨#[97, 42, 63, 98]⟩] w fun e w' => ∃ t, e = .returned (.tuple #[t.v, .int .i64 0]) ∧ Below w.heap.size w w' ∧ RxAt w' t ∧ er t = tA := by
  refine mk_read ⟨#[97, 42, 63, 98]⟩ (by decide) w tA (fun W A c zs n hp => ?_)
  rw [← flk_a]
  refine mk_pattern hp (by decide) 0 (fun l x r => (l = [97, 42, 63, 98] ∧ x = tRep ∧ r = [98]) ∨ (l = [98] ∧ x = chX ⟨#[98]⟩ ∧ r = [])) ?_ _ [] ?_
  · rintro W l' x r (⟨rfl, rfl, rfl⟩ | ⟨rfl, rfl, rfl⟩) hp'
    · refine mk_term hp' 0 (by decide) (by decide) (by decide) (chX ⟨#[97]⟩) tRep [42, 63, 98] [98] (fun W hp => ?_) (fun W N hp hb hN t ht hf her => ?_)
      · exact mk_char hp 97 (by decide) (by decide) (by decide) 0
      · have := mk_times_lz hp hb hN t ht hf (by decide) (by decide)
        rw [her] at this
        exact this
    · exact mk_plain hp' 0 98 (by decide) [] (by decide) (.inr rfl) (by decide)
  · exact .last _ _ _ (.go _ _ [98] _ _ (by decide) (.inl ⟨rfl, rfl, rfl⟩) sz_rep (by decide) (.go _ _ [] _ _ (by decide) (.inr ⟨rfl, rfl, rfl⟩) (sz_chr _ (by decide)) (by decide) (.stop _ (by decide)))) sz_a (by decide)
theorem read_b (w : World) : Calls Tryz.prog 13 #[.string ⟨#[40, 97, 41, 124, 98]⟩] w fun e w' => ∃ t, e = .returned (.tuple #[t.v, .int .i64 0]) ∧ Below w.heap.size w w' ∧ RxAt w' t ∧ er t = tB := by
  refine mk_read ⟨#[40, 97, 41, 124, 98]⟩ (by decide) w tB (fun W A c zs n hp => ?_)
  rw [← flk_b]
  refine mk_pattern hp (by decide) 0 (fun l x r => (l = [40, 97, 41, 124, 98] ∧ x = tGrp ∧ r = [124, 98]) ∨ (l = [98] ∧ x = chX ⟨#[98]⟩ ∧ r = [])) ?_ _ [] ?_
  · rintro W l' x r (⟨rfl, rfl, rfl⟩ | ⟨rfl, rfl, rfl⟩) hp'
    · refine mk_term hp' 0 (by decide) (by decide) (by decide) tGrp tGrp [124, 98] [124, 98] (fun W hp => ?_) (fun W N hp hb hN t ht hf her => ?_)
      · refine mk_group hp (by decide) (by decide) 0 (by decide) (chX ⟨#[97]⟩) [41, 124, 98] (by decide) (fun W hp => ?_)
        rw [← flk_b1]
        refine mk_pattern (l := [97, 41, 124, 98]) hp (by decide) 1 (fun l x r => l = [97, 41, 124, 98] ∧ x = chX ⟨#[97]⟩ ∧ r = [41, 124, 98]) ?_ _ [41, 124, 98] ?_
        · rintro W l' x r ⟨rfl, rfl, rfl⟩ hp'
          exact mk_plain hp' 1 97 (by decide) [41, 124, 98] (by decide) (.inl rfl) (by decide)
        · exact .last _ _ _ (.go _ _ [41, 124, 98] _ _ (by decide) ⟨rfl, rfl, rfl⟩ (sz_chr _ (by decide)) (by decide) (.stop _ (by decide))) sz_b1 (by decide)
      · rw [← her]
        exact mk_times_no hp hb hN t ht hf (by decide)
    · exact mk_plain hp' 0 98 (by decide) [] (by decide) (.inr rfl) (by decide)
  · exact .more _ _ [124, 98] _ _ (.go _ _ [124, 98] _ _ (by decide) (.inl ⟨rfl, rfl, rfl⟩) sz_grp (by decide) (.stop _ (by decide))) sz_b2 (by decide) (by decide) (.last _ _ [] (.go _ _ [] _ _ (by decide) (.inr ⟨rfl, rfl, rfl⟩) (sz_chr _ (by decide)) (by decide) (.stop _ (by decide))) sz_b3 (by decide))
end Go.Proofs.YtcnliipkfccohabGreat
end
