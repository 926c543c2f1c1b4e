/- Contracts: the machine's what a part takes: when, onEdge, accepts. Condition: rows that stay short. And 12 texts more. -/
import Derived.Test.YtcnliipkfccohabGreatS162
import Derived.Test.YtcnliipkfccohabGreatS160
import Derived.Deep.RegionHeld3
import Derived.Deep.DrawnRows
import Derived.BigRegion
import Derived.BigQuiet
import Derived.Deep.RegionLaw
import Derived.Deep.AppendLies
import Derived.Lib.LazyBuf
import Derived.Test.YtcnliipkfccohabGreatLay
import Derived.Shelf.SlicesG.SearchI
namespace Go.Proofs.YtcnliipkfccohabGreat
end Go.Proofs.YtcnliipkfccohabGreat
namespace Go.Proofs.YtcnliipkfccohabGreat.SetM
end Go.Proofs.YtcnliipkfccohabGreat.SetM
namespace Go.Proofs.YtcnliipkfccohabGreat.SpanM
end Go.Proofs.YtcnliipkfccohabGreat.SpanM
section
namespace Go.Proofs.YtcnliipkfccohabGreat
open Go.ChangeShapes Go.WideShapes Go.ChangeAt Go.RowKit
open SetM SpanM
attribute [local go_sem ↓] Go.wp_at_zero Go.wp_at_succ
set_option maxRecDepth 100000
set_option linter.unusedVariables false
attribute [local go_sem] later_cell later_frozen
def Mx.ch (X : Mx) (i : Nat) : ByteArray := X.s.extract (X.ps.getD i 0) (X.ps.getD (i + 1) 0)
def accB (fold : Bool) (x : Rt) (c : ByteArray) : Bool :=
  if x.k = 2 then decide (c = x.ch) || (fold && decide (mapS downB c = mapS downB x.ch)) else if x.k = 3 then !decide (c = ⟨#[10]⟩) else hasF x.rows x.nt fold c
def Mx.edge (X : Mx) (i : Nat) : Bool := (decide (0 < i) && wdB (X.ch (i - 1)).data.toList) != (decide (i + 1 < X.ps.length) && wdB (X.ch i).data.toList)
def Mx.takes (X : Mx) (x : Rt) (i : Nat) : Option Nat :=
  if x.k = 8 then (if i = 0 then some 0 else none)
  else if x.k = 9 then (if i + 1 = X.ps.length then some 0 else none)
  else if x.k = 10 then (if X.edge i = true then some 0 else none)
  else if x.k = 11 then (if X.edge i = true then none else some 0)
  else if i + 1 < X.ps.length then (if accB X.fold x (X.ch i) = true then some 1 else none)
  else none
structure Mx.Ok (X : Mx) : Prop where
  pos : 0 < X.ps.length
  len : X.ps.length ≤ 1000
  up : ∀ i (h : i + 1 < X.ps.length), X.ps[i] ≤ X.ps[i + 1]
  top : ∀ i (h : i < X.ps.length), X.ps[i] ≤ X.s.size
  sz : X.s.size ≤ 1000
theorem eq_lists (a b : ByteArray) : (a.toList == b.toList) = decide (a = b) := by
  rw [Bool.eq_iff_iff]
  simp only [beq_iff_eq, decide_eq_true_eq]
  exact ⟨fun h => by
    rw [Go.ByteArray.toList_eq, Go.ByteArray.toList_eq] at h
    exact ByteArray.ext (Array.toList_inj.1 h), fun h => by rw [h]⟩
theorem mapS_size (f : UInt8 → UInt8) (s : ByteArray) : (mapS f s).size = s.size := by
  show (s.data.toList.map f).toArray.size = s.data.size
  rw [List.size_toArray, List.length_map, Array.length_toList]
section
variable {X : Mx} {R : World} {S : List Nat} {w w' : World}
theorem nd_openQ {W : World} {q : Nat} {x : Rt} {g : Nat} (h : NdAt W q x g) (hb : Below W.heap.size W w) : ∃ kv q2, (∀ j u, (x.cs ++ [kv, .int .i64 ((g : Nat) : Int), .int .i64 ((g + gM x : Nat) : Int)])[j]? = some u → w.cell? ⟨q, j, none⟩ = some u) ∧ RwAt w x.rv x.rows ∧ PtAt w kv x.kids.length q2 ∧ ∀ i (h : i < x.kids.length), NdAt W (q2 i) x.kids[i] (kgo x g + gL (x.kids.take i)) := by
  cases h with
  | mk _ _ _ kv q2 hc hr hk hs => exact ⟨kv, q2, fun j u hu => cell_later hb (hc j u hu), rwat_below hr hb, ptat_below hk hb, hs⟩
theorem mp_bWQ {s : Ms} (h : MP X R S s w) : Below X.W.heap.size X.W w := by
  obtain ⟨_, _, _, _, hr, _⟩ := h
  exact hr.bW
theorem takes_le (hX : X.Ok) : ∀ x i n, i ≤ X.ps.length - 1 → X.takes x i = some n → i + n ≤ X.ps.length - 1 := by
  intro x i n hi h
  have hp := hX.pos
  unfold Mx.takes at h
  split at h
  · split at h
    · injection h with h; omega
    · cases h
  · split at h
    · split at h
      · injection h with h; omega
      · cases h
    · split at h
      · split at h
        · injection h with h; omega
        · cases h
      · split at h
        · split at h
          · cases h
          · injection h with h; omega
        · split at h
          · split at h
            · injection h with h; omega
            · cases h
          · cases h
theorem ch_any {s : Ms} (hX : X.Ok) (h : MP X R S s w) (a : Nat) (ha : a + 1 < X.ps.length) :
    Calls Tryz.prog 77 #[.pointer (some ⟨X.m, 0, none⟩), .int .i64 ((a : Nat) : Int)] w fun e w' => e = .returned (.string (X.ch a)) ∧ Below w.heap.size w w' := by
  have e1 : X.ps.getD a 0 = X.ps[a]'(by omega) := by rw [List.getD_eq_getElem?_getD, List.getElem?_eq_getElem (by omega), Option.getD_some]
  have e2 : X.ps.getD (a + 1) 0 = X.ps[a + 1] := by rw [List.getD_eq_getElem?_getD, List.getElem?_eq_getElem ha, Option.getD_some]
  unfold Mx.ch
  rw [e1, e2]
  exact char_any h a ha (hX.up a ha) (hX.top _ ha) (by have := hX.sz; omega) (by have := hX.len; omega)
theorem ch_size (hX : X.Ok) (a : Nat) : (X.ch a).size ≤ 1000 := by
  unfold Mx.ch
  have := hX.sz
  simp
  omega
set_option maxHeartbeats 4000000 in
theorem when_any (b : Bool) (w : World) : Calls Tryz.prog 74 #[.bool b] w fun e w' => e = .returned (.int .i64 (if b = true then 0 else 1)) ∧ w = w' := by
  go_enter Tryz.func74, Tryz.ntmps74
  cases b
  · go_wp2
    go_ret
    exact ⟨rfl, rfl⟩
  · go_wp2
    go_ret
    exact ⟨rfl, rfl⟩
set_option maxHeartbeats 8000000 in
theorem accepts_any {s : Ms} (hX : X.Ok) (h : MP X R S s w) {q : Nat} {x : Rt} {g : Nat} (hn : NdAt X.W q x g) (hsz : sM x ≤ 1000) (hk : x.k = 2 ∨ x.k = 3 ∨ x.k = 4) (c : ByteArray) (hc : c.size ≤ 1000) :
    Calls Tryz.prog 76 #[.pointer (some ⟨X.m, 0, none⟩), .pointer (some ⟨q, 0, none⟩), .string c] w fun e w' => e = .returned (.bool (accB X.fold x c)) ∧ Below w.heap.size w w' := by
  obtain ⟨kv, q2, hcs, hrw, -, -⟩ := nd_openQ hn (mp_bWQ h)
  have hs := sM_eq x
  have x0 : w.cell? ⟨q, 0, none⟩ = some (.int .i64 x.k) := hcs 0 _ rfl
  have x1 : w.cell? ⟨q, 1, none⟩ = some (.string x.ch) := hcs 1 _ rfl
  have x2 : w.cell? ⟨q, 2, none⟩ = some (.bool x.nt) := hcs 2 _ rfl
  obtain ⟨RA, rc, hrv⟩ := rwat_len hrw
  have x3 : w.cell? ⟨q, 3, none⟩ = some (.slice RA x.rows.length rc) := by rw [← hrv]; exact hcs 3 _ rfl
  have y2 : w.cell? ⟨X.m, 2, none⟩ = some (.bool X.fold) := by obtain ⟨_, _, _, _, _, hc⟩ := h; exact hc.c 2 _ rfl
  have lt1 : X.m < w.heap.size := by obtain ⟨_, _, _, _, _, hc⟩ := h; exact hc.s
  have lt2 : q < w.heap.size := World.block_lt_of_cell? _ _ x0
  have hrl : x.rows.length ≤ 1000 := by have := rwS_len x.rows; omega
  rw [hrv] at hrw
  have HRW := hide hrw
  have hch : x.ch.size ≤ 1000 := by omega
  clear hcs hn h hrw hrv hs
  rcases hk with hk | hk | hk
  · have HA := hide (show accB X.fold x c = (decide (c = x.ch) || (X.fold && decide (mapS downB c = mapS downB x.ch))) by unfold accB; rw [if_pos hk])
    rw [hk] at x0
    rw [HA.out]
    have q10 : (c.toList == x.ch.toList) = decide (c = x.ch) := eq_lists c x.ch
    have HF1 := hide (fun W => folde_any c (mapS downB c) W (by omega) rfl)
    have HF2 := hide (fun W => folde_any x.ch (mapS downB x.ch) W (by omega) rfl)
    by_cases e1 : c = x.ch
    · have q1 : (c.toList == x.ch.toList) = true := by rw [q10]; exact decide_eq_true e1
      have HR := hide (show (decide (c = x.ch) || (X.fold && decide (mapS downB c = mapS downB x.ch))) = true by rw [decide_eq_true e1]; rfl)
      rw [HR.out]
      clear e1 q10
      go_enter Tryz.func76, Tryz.ntmps76
      go_wp2_with fail
      go_quiet (fail)
      go_wp2
      go_ret
      exact ⟨rfl, bl_drewN (bl_refl w) _⟩
    · have q1 : (c.toList == x.ch.toList) = false := by rw [q10]; exact decide_eq_false e1
      cases hfd : X.fold with
      | false =>
        have HR := hide (show (decide (c = x.ch) || (false && decide (mapS downB c = mapS downB x.ch))) = false by rw [decide_eq_false e1]; rfl)
        rw [HR.out]
        rw [hfd] at y2
        clear e1 q10 HA
        go_enter Tryz.func76, Tryz.ntmps76
        go_wp2_with fail
        go_quiet (fail)
        go_wp2
        go_ret
        exact ⟨rfl, bl_drewN (bl_refl w) _⟩
      | true =>
        rw [hfd] at y2
        by_cases e2 : c.size = x.ch.size
        · have d2 : ((c.size : Int) == (x.ch.size : Int)) = true := by rw [e2]; simp
          have d2' : (c.size == x.ch.size) = true := by rw [e2]; simp
          obtain ⟨r, hr⟩ : ∃ r, decide (mapS downB c = mapS downB x.ch) = r := ⟨_, rfl⟩
          have HR := hide (show (decide (c = x.ch) || (true && decide (mapS downB c = mapS downB x.ch))) = r by rw [decide_eq_false e1, hr]; rfl)
          rw [HR.out]
          have q2 : ((mapS downB c).toList == (mapS downB x.ch).toList) = r := (eq_lists _ _).trans hr
          obtain ⟨c', hc'⟩ : ∃ c', mapS downB c = c' := ⟨_, rfl⟩
          obtain ⟨d', hd'⟩ : ∃ c', mapS downB x.ch = c' := ⟨_, rfl⟩
          rw [hc'] at q2 HF1
          rw [hd'] at q2 HF2
          clear e1 q10 HA hr hc' hd' e2
          go_enter Tryz.func76, Tryz.ntmps76
          go_wp2_with fail
          refine wp_region_later (by kernel_rfl) (by kernel_rfl) ?_
          repeat (go_big_quiet_step (first | (go_at_call_of 88 (Value.string c); exact later_call (HF1.out _)) | (go_at_call_of 88 (Value.string x.ch); exact later_call (HF2.out _)) | exact rfl))
          refine wpQuiet_nil ?_
          rintro w9 ⟨⟨_, hb9⟩, rfl⟩
          go_wp2
          go_ret
          exact ⟨rfl, hb9⟩
        · have d2 : ((c.size : Int) == (x.ch.size : Int)) = false := beq_eq_false_iff_ne.2 (by omega)
          have d2' : (c.size == x.ch.size) = false := beq_eq_false_iff_ne.2 e2
          have HR := hide (show (decide (c = x.ch) || (true && decide (mapS downB c = mapS downB x.ch))) = false by rw [decide_eq_false e1, decide_eq_false (fun e => e2 (by have := congrArg ByteArray.size e; rwa [mapS_size, mapS_size] at this))]; rfl)
          rw [HR.out]
          clear e1 q10 HA e2
          go_enter Tryz.func76, Tryz.ntmps76
          go_wp2_with fail
          go_quiet (fail)
          go_wp2
          go_ret
          exact ⟨rfl, bl_drewN (bl_refl w) _⟩
  · have HA := hide (show accB X.fold x c = !decide (c = ⟨#[10]⟩) by unfold accB; rw [if_neg (by omega), if_pos hk])
    rw [hk] at x0
    go_enter Tryz.func76, Tryz.ntmps76
    go_wp2
    go_ret
    have e10 : (c.toList == [10]) = decide (c = ⟨#[10]⟩) := by rw [← eq_lists c ⟨#[10]⟩, Go.ByteArray.toList_eq ⟨#[10]⟩]
    exact ⟨ret_bool (by rw [HA.out, ← e10]), bl_refl w⟩
  · have HA := hide (show accB X.fold x c = hasF x.rows x.nt X.fold c by unfold accB; rw [if_neg (by omega), if_neg (by omega)])
    rw [hk] at x0
    rw [HA.out]
    obtain ⟨r, hr⟩ : ∃ r, hasF x.rows x.nt X.fold c = r := ⟨_, rfl⟩
    have HH := hide (fun W hb => hass_any _ x.rows x.nt X.fold c r W (rwat_below HRW.out hb) hrl (by omega) hr)
    rw [hr]
    clear hr
    go_enter Tryz.func76, Tryz.ntmps76
    go_wp2_with fail
    refine wp_region_later (by kernel_rfl) (by kernel_rfl) ?_
    repeat (go_big_quiet_step (first | (go_at_call 89; exact later_call (HH.out _ (by repeat (first | exact bl_refl _ | assumption | exact Later.below _)))) | exact rfl))
    refine wpQuiet_nil ?_
    rintro w9 ⟨⟨_, hb9⟩, rfl⟩
    go_wp2
    go_ret
    exact ⟨rfl, hb9⟩
end
end Go.Proofs.YtcnliipkfccohabGreat
end
section
namespace Go.Proofs.YtcnliipkfccohabGreat
open Go.ChangeShapes Go.WideShapes Go.ChangeAt Go.RowKit
open SetM SpanM
attribute [local go_sem ↓] Go.wp_at_zero Go.wp_at_succ
set_option maxRecDepth 100000
set_option linter.unusedVariables false
attribute [local go_sem] later_cell later_frozen
section
variable {X : Mx} {R : World} {S : List Nat} {w w' : World}
set_option maxHeartbeats 8000000 in
theorem edge_any {s : Ms} (hX : X.Ok) (h : MP X R S s w) (hi : s.i + 1 ≤ X.ps.length) :
    Calls Tryz.prog 75 #[.pointer (some ⟨X.m, 0, none⟩)] w fun e w' => e = .returned (.bool (X.edge s.i)) ∧ Below w.heap.size w w' := by
  have HCH := hide (fun W (hb : Below w.heap.size w W) a (ha : a + 1 < X.ps.length) => ch_any hX (mp_bl' h hb) a ha)
  have HLN := hide (show X.ps.length ≤ 1000 from hX.len)
  obtain ⟨rv, tv, cv, L, hr, hc⟩ := h
  have y1 : w.cell? ⟨X.m, 1, none⟩ = some (.slice (some ⟨X.plb, 0, none⟩) X.ps.length X.pc) := hc.c 1 _ rfl
  have y5 : w.cell? ⟨X.m, 5, none⟩ = some (.int .i64 ((s.i : Nat) : Int)) := hc.c 5 _ rfl
  have lt1 : X.m < w.heap.size := hc.s
  have lt2 : X.plb < w.heap.size := (World.ownsRow.lt hr.pl X.plb rfl).2
  clear hr hc
  obtain ⟨i, hii⟩ : ∃ i, s.i = i := ⟨_, rfl⟩
  rw [hii] at hi y5 ⊢
  clear hii
  have lnn := HLN.out
  by_cases h0 : 0 < i
  · by_cases h1 : i + 1 < X.ps.length
    · obtain ⟨i1, rfl⟩ : ∃ i1, i = i1 + 1 := ⟨i - 1, by omega⟩
      have d0 : decide ((0 : Int) < ((i1 : Nat) : Int) + 1) = true := decide_eq_true (by omega)
      have d0' : decide (0 < i1 + 1) = true := decide_eq_true (by omega)
      have HC1 := hide (HCH.out w (bl_refl w) i1 (by omega))
      have ew : IntKind.i64.wrap ((X.ps.length : Int) - 1) = (X.ps.length : Int) - 1 := by rw [IntKind.wrap_i64]; have := HLN.out; omega
      have d1 : decide ((((i1 : Nat) : Int) + 1) < (X.ps.length : Int) - 1) = true := decide_eq_true (by omega)
      have d2 : decide (((i1 : Nat) : Int) + 1 + 1 < (X.ps.length : Int)) = true := decide_eq_true (by omega)
      have hib : i1 + 1 ≤ 1000 := by omega
      have HE := hide (show X.edge (i1 + 1) = (wdB (X.ch i1).data.toList != wdB (X.ch (i1 + 1)).data.toList) by unfold Mx.edge; rw [decide_eq_true (show 0 < i1 + 1 by omega), decide_eq_true h1]; simp only [Bool.true_and, Nat.add_sub_cancel])
      rw [HE.out]
      obtain ⟨r1, hr1⟩ : ∃ r, wdB (X.ch i1).data.toList = r := ⟨_, rfl⟩
      have HW1 := hide (fun W => word_any (X.ch i1) r1 W hr1)
      rw [hr1]
      clear hr1
      obtain ⟨r2, hr2⟩ : ∃ r, wdB (X.ch (i1 + 1)).data.toList = r := ⟨_, rfl⟩
      have HW2 := hide (fun W => word_any (X.ch (i1 + 1)) r2 W hr2)
      rw [hr2]
      have HC2 := hide (fun W hb => HCH.out W hb (i1 + 1) h1)
      clear hr2
      clear HE h0 h1 HCH hi
      go_enter Tryz.func75, Tryz.ntmps75
      go_wp2_with fail
      refine HC1.out.mono ?_
      rintro e w1 ⟨rfl, hb1⟩
      go_wp2_with fail
      refine (HW1.out w1).mono ?_
      rintro e w2 ⟨rfl, hb2⟩
      have hb := bl_trans hb1 hb2
      have y1 := cell_later hb y1
      have y5 := cell_later hb y5
      have lt1 := Nat.lt_of_lt_of_le lt1 hb.size
      have lt2 := Nat.lt_of_lt_of_le lt2 hb.size
      clear hb1 hb2
      go_wp2_with fail
      refine wp_region_later (by kernel_rfl) (by kernel_rfl) ?_
      repeat (go_big_quiet_step (first | (go_at_call 77; exact later_call (HC2.out _ (bl_trans hb (Later.below _)))) | (go_at_call 87; exact later_call (HW2.out _)) | exact rfl))
      refine wpQuiet_nil ?_
      rintro w9 ⟨⟨_, hb9⟩, rfl⟩
      go_wp2
      go_ret
      exact ⟨ret_bool (by first | rfl | (simp; done) | (cases r1 <;> cases r2 <;> rfl)), bl_trans hb hb9⟩
    · obtain ⟨i1, rfl⟩ : ∃ i1, i = i1 + 1 := ⟨i - 1, by omega⟩
      have d0 : decide ((0 : Int) < ((i1 : Nat) : Int) + 1) = true := decide_eq_true (by omega)
      have d0' : decide (0 < i1 + 1) = true := decide_eq_true (by omega)
      have HC1 := hide (HCH.out w (bl_refl w) i1 (by omega))
      have ew : IntKind.i64.wrap ((X.ps.length : Int) - 1) = (X.ps.length : Int) - 1 := by rw [IntKind.wrap_i64]; have := HLN.out; omega
      have d1 : decide ((((i1 : Nat) : Int) + 1) < (X.ps.length : Int) - 1) = false := decide_eq_false (by omega)
      have d2 : decide (((i1 : Nat) : Int) + 1 + 1 < (X.ps.length : Int)) = false := decide_eq_false (by omega)
      have hib : i1 + 1 ≤ 1000 := by omega
      have HE := hide (show X.edge (i1 + 1) = (wdB (X.ch i1).data.toList != false) by unfold Mx.edge; rw [decide_eq_true (show 0 < i1 + 1 by omega), decide_eq_false h1]; simp only [Bool.true_and, Bool.false_and, Nat.add_sub_cancel])
      rw [HE.out]
      obtain ⟨r1, hr1⟩ : ∃ r, wdB (X.ch i1).data.toList = r := ⟨_, rfl⟩
      have HW1 := hide (fun W => word_any (X.ch i1) r1 W hr1)
      rw [hr1]
      clear hr1
      clear HE h0 h1 HCH hi
      go_enter Tryz.func75, Tryz.ntmps75
      go_wp2_with fail
      refine HC1.out.mono ?_
      rintro e w1 ⟨rfl, hb1⟩
      go_wp2_with fail
      refine (HW1.out w1).mono ?_
      rintro e w2 ⟨rfl, hb2⟩
      have hb := bl_trans hb1 hb2
      have y1 := cell_later hb y1
      have y5 := cell_later hb y5
      have lt1 := Nat.lt_of_lt_of_le lt1 hb.size
      have lt2 := Nat.lt_of_lt_of_le lt2 hb.size
      clear hb1 hb2
      go_wp2_with fail
      go_quiet (fail)
      have hb9 := bl_drewN (bl_refl w2) nq
      go_wp2
      go_ret
      exact ⟨ret_bool (by first | rfl | (simp; done) | (cases r1 <;> cases r2 <;> rfl)), bl_trans hb hb9⟩
  · by_cases h1 : i + 1 < X.ps.length
    · obtain rfl : i = 0 := by omega
      have ew : IntKind.i64.wrap ((X.ps.length : Int) - 1) = (X.ps.length : Int) - 1 := by rw [IntKind.wrap_i64]; have := HLN.out; omega
      have d1 : decide (((0 : Int)) < (X.ps.length : Int) - 1) = true := decide_eq_true (by omega)
      have d2 : decide ((1 : Int) < (X.ps.length : Int)) = true := decide_eq_true (by omega)
      have hib : True := trivial
      have HE := hide (show X.edge (0) = (false != wdB (X.ch (0)).data.toList) by unfold Mx.edge; rw [decide_eq_false (show ¬ 0 < 0 by omega), decide_eq_true h1]; simp only [Bool.true_and, Bool.false_and])
      rw [HE.out]
      obtain ⟨r2, hr2⟩ : ∃ r, wdB (X.ch (0)).data.toList = r := ⟨_, rfl⟩
      have HW2 := hide (fun W => word_any (X.ch (0)) r2 W hr2)
      rw [hr2]
      have HC2 := hide (fun W hb => HCH.out W hb (0) h1)
      clear hr2
      clear HE h0 h1 HCH hi
      go_enter Tryz.func75, Tryz.ntmps75
      go_wp2_with fail
      have hb := bl_refl w
      refine wp_region_later (by kernel_rfl) (by kernel_rfl) ?_
      repeat (go_big_quiet_step (first | (go_at_call 77; exact later_call (HC2.out _ (bl_trans hb (Later.below _)))) | (go_at_call 87; exact later_call (HW2.out _)) | exact rfl))
      refine wpQuiet_nil ?_
      rintro w9 ⟨⟨_, hb9⟩, rfl⟩
      go_wp2
      go_ret
      exact ⟨ret_bool (by first | rfl | (simp; done) | (cases r1 <;> cases r2 <;> rfl)), bl_trans hb hb9⟩
    · obtain rfl : i = 0 := by omega
      have ew : IntKind.i64.wrap ((X.ps.length : Int) - 1) = (X.ps.length : Int) - 1 := by rw [IntKind.wrap_i64]; have := HLN.out; omega
      have d1 : decide (((0 : Int)) < (X.ps.length : Int) - 1) = false := decide_eq_false (by omega)
      have d2 : decide ((1 : Int) < (X.ps.length : Int)) = false := decide_eq_false (by omega)
      have hib : True := trivial
      have HE := hide (show X.edge (0) = (false != false) by unfold Mx.edge; rw [decide_eq_false (show ¬ 0 < 0 by omega), decide_eq_false h1]; simp only [Bool.false_and])
      rw [HE.out]
      clear HE h0 h1 HCH hi
      go_enter Tryz.func75, Tryz.ntmps75
      go_wp2_with fail
      have hb := bl_refl w
      go_quiet (fail)
      have hb9 := bl_drewN (bl_refl w) nq
      go_wp2
      go_ret
      exact ⟨ret_bool (by first | rfl | (simp; done) | (cases r1 <;> cases r2 <;> rfl)), bl_trans hb hb9⟩
end
end Go.Proofs.YtcnliipkfccohabGreat
end
section
namespace Go.Proofs.YtcnliipkfccohabGreat
open Go.ChangeShapes Go.WideShapes Go.ChangeAt Go.RowKit
open SetM SpanM
attribute [local go_sem ↓] Go.wp_at_zero Go.wp_at_succ
set_option maxRecDepth 100000
set_option linter.unusedVariables false
attribute [local go_sem] later_cell later_frozen
def DsPost (X : Mx) (R : World) (S : List Nat) (d : Ds) (e : Ending) (w' : World) : Prop := match d with
  | .go s => e = .returned (.int .i64 0) ∧ MP X R S s w'
  | .failed s => e = .returned (.int .i64 1) ∧ MP X R S s w'
  | .dry => e = .returned (.int .i64 2) ∧ ∃ s, MP X R S s w'
section
variable {X : Mx} {R : World} {S : List Nat} {w w' : World}
theorem mp_fuel {s : Ms} (h : MP X R S s w) (f : Nat) : MP X R S { s with f := f } (w.setCell ⟨X.m, 3, none⟩ (.int .i64 ((f : Nat) : Int))) := by
  obtain ⟨rv, tv, cv, L, hr, hc⟩ := h
  exact ⟨rv, tv, cv, L, hr.set 3 _, hc.put 3 _⟩
theorem mp_at {s : Ms} (h : MP X R S s w) (i : Nat) : MP X R S { s with i := i } (w.setCell ⟨X.m, 5, none⟩ (.int .i64 ((i : Nat) : Int))) := by
  obtain ⟨rv, tv, cv, L, hr, hc⟩ := h
  exact ⟨rv, tv, cv, L, hr.set 5 _, hc.put 5 _⟩
theorem mp_cs {s : Ms} (h : MP X R S s w) : ∃ rv tv cv, Cm w X.m (X.cs s.f s.i rv tv cv) := by
  obtain ⟨rv, tv, cv, L, hr, hc⟩ := h
  exact ⟨rv, tv, cv, hc⟩
theorem nd_base {W : World} {q : Nat} {x : Rt} {g : Nat} (h : NdAt W q x g) : ∃ kv q2, (∀ j u, (x.cs ++ [kv, .int .i64 ((g : Nat) : Int), .int .i64 ((g + gM x : Nat) : Int)])[j]? = some u → W.cell? ⟨q, j, none⟩ = some u) ∧ PtAt W kv x.kids.length q2 ∧ ∀ i (h : i < x.kids.length), NdAt W (q2 i) x.kids[i] (kgo x g + gL (x.kids.take i)) := by
  cases h with
  | mk _ _ _ kv q2 hc hr hk hs => exact ⟨kv, q2, hc, hk, hs⟩
theorem nd_one {W : World} {q : Nat} {x y : Rt} {g : Nat} (h : NdAt W q x g) (hy : x.kids = [y]) : ∃ b c qy, W.cell? ⟨q, 8, none⟩ = some (.slice (some ⟨b, 0, none⟩) 1 c) ∧ W.cell? ⟨b, 0, none⟩ = some (.pointer (some ⟨qy, 0, none⟩)) ∧ NdAt W qy y (kgo x g) := by
  obtain ⟨kv, q2, hc, hk, hs⟩ := nd_base h
  have h8 : W.cell? ⟨q, 8, none⟩ = some kv := hc 8 _ rfl
  have hl : x.kids.length = 1 := by rw [hy]; rfl
  rcases hk with ⟨_, h1⟩ | ⟨b, c, h1, h2, h3, h4⟩
  · omega
  · rw [h1, hl] at h8
    have h5 := hs 0 (by omega)
    have e1 : x.kids[0] = y := by simp [hy]
    rw [e1] at h5
    simp [gL] at h5
    exact ⟨b, c, q2 0, h8, h4 0 (by omega), h5⟩
set_option maxHeartbeats 16000000 in
theorem enter_any {s : Ms} (hX : X.Ok) (h : MP X R S s w) {q np : Nat} {x : Rt} {g : Nat} (hn : NdAt X.W q x g) (ho : XOk np x g) (hi : s.i + 1 ≤ X.ps.length) (hf : s.f ≤ 20000) :
    Calls Tryz.prog 59 #[.pointer (some ⟨X.m, 0, none⟩), .pointer (some ⟨q, 0, none⟩)] w (DsPost X R S (entM X.takes x g s.todo s)) := by
  have hkk := ho.kind
  obtain ⟨kv, q2, hcs, -, -⟩ := nd_base hn
  have x0 : w.cell? ⟨q, 0, none⟩ = some (.int .i64 x.k) := cell_later (mp_bWQ h) (hcs 0 _ rfl)
  have X0 := hide (show X.W.cell? ⟨q, 0, none⟩ = some (.int .i64 x.k) from hcs 0 _ rfl)
  have lt2 : q < w.heap.size := World.block_lt_of_cell? _ _ x0
  have HN := hide hn
  have H := hide h
  have y3 : w.cell? ⟨X.m, 3, none⟩ = some (.int .i64 ((s.f : Nat) : Int)) := by obtain ⟨_, _, _, hc⟩ := mp_cs h; exact hc.c 3 _ rfl
  have f3 : w.frozen? ⟨X.m, 3, none⟩ = false := by obtain ⟨_, _, _, hc⟩ := mp_cs h; exact hc.f 3
  have lt1 : X.m < w.heap.size := by obtain ⟨_, _, _, hc⟩ := mp_cs h; exact hc.s
  have hqm : X.m ≠ q := by
    obtain ⟨_, _, _, _, hr, _⟩ := h
    have h1 := hr.mlt
    have h2 : q < X.W.heap.size := World.block_lt_of_cell? _ _ (hcs 0 _ rfl)
    omega
  clear hcs h hn
  by_cases hk : x.k = 0
  · have HD := hide (show entM X.takes x g s.todo s = .go { s with todo := .kids x.kids g :: s.todo } by unfold entM; rw [if_pos hk])
    rw [HD.out]
    rw [hk] at x0
    have HT := hide (then_any H.out (t := .kids x.kids g) (wh := 1) (n := 0) (fr := 0) (by have := TwAt.kids q x g 0 0 HN.out (Nat.zero_le _) (by have h1 := ho.pt; have h2 := len_pL x.kids; rw [pM_eq] at h1; omega); simp [gL] at this; rw [show kgo x g = g by unfold kgo; rw [if_neg (by omega)]] at this; exact this))
    clear hk
    go_enter Tryz.func59, Tryz.ntmps59
    go_wp2_with fail
    refine HT.out.mono ?_
    rintro e w1 ⟨rfl, hm1⟩
    have HM1 := hide hm1
    clear hm1
    go_wp2
    go_ret
    exact ⟨rfl, HM1.out⟩
  by_cases hk1 : x.k = 1
  · have HD := hide (show entM X.takes x g s.todo s = .go { s with todo := .others x.kids g :: s.todo } by unfold entM; rw [if_neg (by omega), if_pos hk1])
    rw [HD.out]
    rw [hk1] at x0
    have HT := hide (then_any H.out (t := .others x.kids g) (wh := 2) (n := 0) (fr := 0) (by have := TwAt.others q x g 0 0 HN.out (by have := ho.alt hk1; omega) (by have h1 := ho.pt; have h2 := len_pL x.kids; rw [pM_eq] at h1; omega); simp [gL] at this; rw [show kgo x g = g by unfold kgo; rw [if_neg (by omega)]] at this; exact this))
    clear hk hk1
    go_enter Tryz.func59, Tryz.ntmps59
    go_wp2_with fail
    refine HT.out.mono ?_
    rintro e w1 ⟨rfl, hm1⟩
    have HM1 := hide hm1
    clear hm1
    go_wp2
    go_ret
    exact ⟨rfl, HM1.out⟩
  by_cases hk7 : x.k = 7
  · have HD := hide (show entM X.takes x g s.todo s = .go { s with todo := .again x g 0 :: s.todo } by unfold entM; rw [if_neg (by omega), if_neg (by omega), if_pos hk7])
    rw [HD.out]
    rw [hk7] at x0
    have HT := hide (then_any H.out (TwAt.again q x g 0 0 HN.out))
    clear hk hk1 hk7
    go_enter Tryz.func59, Tryz.ntmps59
    go_wp2_with fail
    refine HT.out.mono ?_
    rintro e w1 ⟨rfl, hm1⟩
    have HM1 := hide hm1
    clear hm1
    go_wp2
    go_ret
    exact ⟨rfl, HM1.out⟩
  have g0 : (x.k == 0) = false := beq_eq_false_iff_ne.2 hk
  have g1 : (x.k == 1) = false := beq_eq_false_iff_ne.2 hk1
  have g7 : (x.k == 7) = false := beq_eq_false_iff_ne.2 hk7
  by_cases hf0 : s.f = 0
  · have HD := hide (show entM X.takes x g s.todo s = .dry by unfold entM; rw [if_neg hk, if_neg hk1, if_neg hk7, if_pos hf0])
    rw [HD.out]
    rw [hf0] at y3
    clear hk hk1 hk7 hf0
    go_enter Tryz.func59, Tryz.ntmps59
    go_wp2
    go_ret
    exact ⟨rfl, _, H.out⟩
  obtain ⟨f1, hf1⟩ : ∃ f1, s.f = f1 + 1 := ⟨s.f - 1, by omega⟩
  have HD0 := hide (show entM X.takes x g s.todo s = (if x.k = 5 then match x.kids with
    | [y] => .go { s with todo := .enter y (g + 1) :: .shut g s.i :: s.todo, f := f1 }
    | _ => .dry
  else if x.k = 6 then match x.kids with
    | [y] => .go { s with todo := .enter y g :: s.todo, f := f1 }
    | _ => .dry
  else match X.takes x s.i with
    | some n => .go { s with todo := s.todo, i := s.i + n, f := f1 }
    | none => .failed { s with todo := s.todo, f := f1 }) by unfold entM; rw [if_neg hk, if_neg hk1, if_neg hk7, if_neg hf0, hf1]; rfl)
  rw [HD0.out]
  rw [hf1] at y3
  have e3 : IntKind.i64.wrap (((f1 : Nat) : Int) + 1 - 1) = ((f1 : Nat) : Int) := by rw [IntKind.wrap_i64]; omega
  have HM1 := hide (mp_fuel H.out f1)
  have y5 : w.cell? ⟨X.m, 5, none⟩ = some (.int .i64 ((s.i : Nat) : Int)) := by obtain ⟨_, _, _, hc⟩ := mp_cs H.out; exact hc.c 5 _ rfl
  have f5 : w.frozen? ⟨X.m, 5, none⟩ = false := by obtain ⟨_, _, _, hc⟩ := mp_cs H.out; exact hc.f 5
  have y1 : w.cell? ⟨X.m, 1, none⟩ = some (.slice (some ⟨X.plb, 0, none⟩) X.ps.length X.pc) := by obtain ⟨_, _, _, hc⟩ := mp_cs H.out; exact hc.c 1 _ rfl
  have hbq : f1 ≤ 20000 := by omega
  clear HD0 hf hf1 hf0
  by_cases hk5 : x.k = 5
  · obtain ⟨y, hy, hyo⟩ := ho.one (.inl hk5)
    rw [if_pos hk5, hy]
    obtain ⟨b, c, qy, h8, hb0, hny⟩ := nd_one HN.out hy
    rw [show kgo x g = g + 1 by unfold kgo; rw [if_pos hk5]] at hny
    rw [hk5] at x0
    have HT1 := hide (fun (W : World) (h : MP X R S { s with f := f1 } W) => then_any h (TwAt.shut q x g s.i 0 HN.out))
    have HT2 := hide (fun (W : World) (h : MP X R S { s with f := f1, todo := .shut g s.i :: s.todo } W) => then_any h (TwAt.enter qy y (g + 1) 0 0 hny))
    have H8 := hide h8
    have HB := hide hb0
    clear hk hk1 hk7 hk5 hy hyo h8 hb0 hny hkk
    go_enter Tryz.func59, Tryz.ntmps59
    go_wp2_with fail
    refine (HT1.out _ HM1.out).mono ?_
    rintro e w2 ⟨rfl, hm2⟩
    have z8 := cell_later (mp_bWQ hm2) H8.out
    have zb := cell_later (mp_bWQ hm2) HB.out
    have HM2 := hide hm2
    clear hm2
    go_wp2_with fail
    refine (HT2.out w2 HM2.out).mono ?_
    rintro e w3 ⟨rfl, hm3⟩
    have HM3 := hide hm3
    clear hm3
    go_wp2
    go_ret
    exact ⟨rfl, HM3.out⟩
  have g5 : (x.k == 5) = false := beq_eq_false_iff_ne.2 hk5
  by_cases hk6 : x.k = 6
  · obtain ⟨y, hy, hyo⟩ := ho.one (.inr (.inl hk6))
    rw [if_neg hk5, if_pos hk6, hy]
    obtain ⟨b, c, qy, h8, hb0, hny⟩ := nd_one HN.out hy
    rw [show kgo x g = g by unfold kgo; rw [if_neg hk5]] at hny
    rw [hk6] at x0
    have HT2 := hide (fun (W : World) (h : MP X R S { s with f := f1 } W) => then_any h (TwAt.enter qy y g 0 0 hny))
    have z8 := cell_later (mp_bWQ H.out) h8
    have zb := cell_later (mp_bWQ H.out) hb0
    have hb1 : X.m ≠ b := by
      obtain ⟨_, _, _, _, hr, _⟩ := H.out
      have h1 := hr.mlt
      have h2 : b < X.W.heap.size := World.block_lt_of_cell? _ _ hb0
      omega
    clear hk hk1 hk7 hk5 hk6 hy hyo h8 hb0 hny hkk
    go_enter Tryz.func59, Tryz.ntmps59
    go_wp2_with fail
    refine (HT2.out _ HM1.out).mono ?_
    rintro e w3 ⟨rfl, hm3⟩
    have HM3 := hide hm3
    clear hm3
    go_wp2
    go_ret
    exact ⟨rfl, HM3.out⟩
  have g6 : (x.k == 6) = false := beq_eq_false_iff_ne.2 hk6
  rw [if_neg hk5, if_neg hk6]
  by_cases hk8 : x.k = 8
  · by_cases hi0 : s.i = 0
    · have HT := hide (show X.takes x s.i = some 0 by unfold Mx.takes; rw [if_pos hk8, if_pos hi0])
      rw [HT.out]
      rw [hi0] at y5
      rw [hk8] at x0
      clear hk hk1 hk7 hk5 hk6 hk8 hi0 HT hkk
      go_enter Tryz.func59, Tryz.ntmps59
      go_wp2_with fail
      refine (when_any true _).mono ?_
      rintro e w5 ⟨rfl, rfl⟩
      go_wp2
      go_ret
      exact ⟨rfl, HM1.out⟩
    · have HT := hide (show X.takes x s.i = none by unfold Mx.takes; rw [if_pos hk8, if_neg hi0])
      rw [HT.out]
      have q5 : (((s.i : Nat) : Int) == 0) = false := beq_eq_false_iff_ne.2 (by omega)
      have q5' : (s.i == 0) = false := beq_eq_false_iff_ne.2 hi0
      rw [hk8] at x0
      clear hk hk1 hk7 hk5 hk6 hk8 hi0 HT hkk
      go_enter Tryz.func59, Tryz.ntmps59
      go_wp2_with fail
      refine (when_any false _).mono ?_
      rintro e w5 ⟨rfl, rfl⟩
      go_wp2
      go_ret
      exact ⟨rfl, HM1.out⟩
  have g8 : (x.k == 8) = false := beq_eq_false_iff_ne.2 hk8
  by_cases hk9 : x.k = 9
  · by_cases hi0 : s.i + 1 = X.ps.length
    · have HT := hide (show X.takes x s.i = some 0 by unfold Mx.takes; rw [if_neg hk8, if_pos hk9, if_pos hi0])
      rw [HT.out]
      have ew : IntKind.i64.wrap ((X.ps.length : Int) - 1) = (X.ps.length : Int) - 1 := by rw [IntKind.wrap_i64]; have := hX.len; omega
      have q5 : (((s.i : Nat) : Int) == (X.ps.length : Int) - 1) = true := beq_iff_eq.2 (by omega)
      rw [hk9] at x0
      clear hi0 hk9
      clear hk hk1 hk7 hk5 hk6 hk8 HT hkk
      go_enter Tryz.func59, Tryz.ntmps59
      go_wp2_with fail
      refine wp_region_later (by kernel_rfl) (by kernel_rfl) ?_
      repeat (go_big_quiet_step (first | (go_at_call 74; exact later_call_same ((when_any true _).mono (fun _ _ h => h))) | exact rfl))
      refine wpQuiet_nil ?_
      rintro w9 ⟨⟨_, hb9⟩, rfl⟩
      go_wp2
      go_ret
      exact ⟨rfl, mp_bl' HM1.out hb9⟩
    · have HT := hide (show X.takes x s.i = none by unfold Mx.takes; rw [if_neg hk8, if_pos hk9, if_neg hi0])
      rw [HT.out]
      have ew : IntKind.i64.wrap ((X.ps.length : Int) - 1) = (X.ps.length : Int) - 1 := by rw [IntKind.wrap_i64]; have := hX.len; omega
      have q5 : (((s.i : Nat) : Int) == (X.ps.length : Int) - 1) = false := beq_eq_false_iff_ne.2 (by omega)
      rw [hk9] at x0
      clear hi0 hk9
      clear hk hk1 hk7 hk5 hk6 hk8 HT hkk
      go_enter Tryz.func59, Tryz.ntmps59
      go_wp2_with fail
      refine wp_region_later (by kernel_rfl) (by kernel_rfl) ?_
      repeat (go_big_quiet_step (first | (go_at_call 74; exact later_call_same ((when_any false _).mono (fun _ _ h => h))) | exact rfl))
      refine wpQuiet_nil ?_
      rintro w9 ⟨⟨_, hb9⟩, rfl⟩
      go_wp2
      go_ret
      exact ⟨rfl, mp_bl' HM1.out hb9⟩
  have g9 : (x.k == 9) = false := beq_eq_false_iff_ne.2 hk9
  by_cases hk10 : x.k = 10
  · obtain ⟨r, hr⟩ : ∃ r, X.edge s.i = r := ⟨_, rfl⟩
    have HE := hide (fun (W : World) (h : MP X R S { s with f := f1 } W) => (edge_any hX h hi).mono (fun e w' hh => (show e = .returned (.bool r) ∧ Below W.heap.size W w' from ⟨by rw [hh.1, ← hr], hh.2⟩)))
    rw [hk10] at x0
    cases r
    · have HT := hide (show X.takes x s.i = none by unfold Mx.takes; rw [if_neg hk8, if_neg hk9, if_pos hk10, if_neg (by rw [hr]; exact Bool.false_ne_true)])
      rw [HT.out]
      clear hk10 hk9 hr
      clear hk hk1 hk7 hk5 hk6 hk8 HT hkk
      go_enter Tryz.func59, Tryz.ntmps59
      go_wp2_with fail
      refine (HE.out _ HM1.out).mono ?_
      rintro e w4 ⟨rfl, hb4⟩
      go_wp2_with fail
      refine (when_any false _).mono ?_
      rintro e w5 ⟨rfl, rfl⟩
      go_wp2
      go_ret
      exact ⟨rfl, mp_bl' HM1.out hb4⟩
    · have HT := hide (show X.takes x s.i = some 0 by unfold Mx.takes; rw [if_neg hk8, if_neg hk9, if_pos hk10, if_pos hr])
      rw [HT.out]
      clear hk10 hk9 hr
      clear hk hk1 hk7 hk5 hk6 hk8 HT hkk
      go_enter Tryz.func59, Tryz.ntmps59
      go_wp2_with fail
      refine (HE.out _ HM1.out).mono ?_
      rintro e w4 ⟨rfl, hb4⟩
      go_wp2_with fail
      refine (when_any true _).mono ?_
      rintro e w5 ⟨rfl, rfl⟩
      go_wp2
      go_ret
      exact ⟨rfl, mp_bl' HM1.out hb4⟩
  have g10 : (x.k == 10) = false := beq_eq_false_iff_ne.2 hk10
  by_cases hk11 : x.k = 11
  · obtain ⟨r, hr⟩ : ∃ r, X.edge s.i = r := ⟨_, rfl⟩
    have HE := hide (fun (W : World) (h : MP X R S { s with f := f1 } W) => (edge_any hX h hi).mono (fun e w' hh => (show e = .returned (.bool r) ∧ Below W.heap.size W w' from ⟨by rw [hh.1, ← hr], hh.2⟩)))
    rw [hk11] at x0
    cases r
    · have HT := hide (show X.takes x s.i = some 0 by unfold Mx.takes; rw [if_neg hk8, if_neg hk9, if_neg hk10, if_pos hk11, if_neg (by rw [hr]; exact Bool.false_ne_true)])
      rw [HT.out]
      clear hk11 hk10 hk9 hr
      clear hk hk1 hk7 hk5 hk6 hk8 HT hkk
      go_enter Tryz.func59, Tryz.ntmps59
      go_wp2_with fail
      refine (HE.out _ HM1.out).mono ?_
      rintro e w4 ⟨rfl, hb4⟩
      go_wp2_with fail
      refine (when_any true _).mono ?_
      rintro e w5 ⟨rfl, rfl⟩
      go_wp2
      go_ret
      exact ⟨rfl, mp_bl' HM1.out hb4⟩
    · have HT := hide (show X.takes x s.i = none by unfold Mx.takes; rw [if_neg hk8, if_neg hk9, if_neg hk10, if_pos hk11, if_pos hr])
      rw [HT.out]
      clear hk11 hk10 hk9 hr
      clear hk hk1 hk7 hk5 hk6 hk8 HT hkk
      go_enter Tryz.func59, Tryz.ntmps59
      go_wp2_with fail
      refine (HE.out _ HM1.out).mono ?_
      rintro e w4 ⟨rfl, hb4⟩
      go_wp2_with fail
      refine (when_any false _).mono ?_
      rintro e w5 ⟨rfl, rfl⟩
      go_wp2
      go_ret
      exact ⟨rfl, mp_bl' HM1.out hb4⟩
  have g11 : (x.k == 11) = false := beq_eq_false_iff_ne.2 hk11
  have ew : IntKind.i64.wrap ((X.ps.length : Int) - 1) = (X.ps.length : Int) - 1 := by rw [IntKind.wrap_i64]; have := hX.len; omega
  by_cases hi0 : s.i + 1 < X.ps.length
  · have q5 : (((s.i : Nat) : Int) == (X.ps.length : Int) - 1) = false := beq_eq_false_iff_ne.2 (by omega)
    obtain ⟨r, hr⟩ : ∃ r, accB X.fold x (X.ch s.i) = r := ⟨_, rfl⟩
    have HA := hide (fun (W : World) (h : MP X R S { s with f := f1 } W) => accepts_any hX h HN.out ho.sz (by omega) (X.ch s.i) (ch_size hX _))
    rw [hr] at HA
    have HC := hide (fun (W : World) (h : MP X R S { s with f := f1 } W) => ch_any hX h s.i hi0)
    have e5 : IntKind.i64.wrap (((s.i : Nat) : Int) + 1) = ((s.i : Nat) : Int) + 1 := by rw [IntKind.wrap_i64]; have := hX.len; omega
    cases r
    · have HT := hide (show X.takes x s.i = none by unfold Mx.takes; rw [if_neg hk8, if_neg hk9, if_neg hk10, if_neg hk11, if_pos hi0, if_neg (by rw [hr]; exact Bool.false_ne_true)])
      rw [HT.out]
      clear hi0 hr
      clear hk hk1 hk7 hk5 hk6 hk8 hk9 hk10 hk11 HT hkk
      go_enter Tryz.func59, Tryz.ntmps59
      go_wp2_with fail
      refine wp_region_later (by kernel_rfl) (by kernel_rfl) ?_
      repeat (go_big_quiet_step (first | (go_at_call 77; exact later_call (HC.out _ (mp_bl' HM1.out (Later.below _)))) | (go_at_call 76; exact later_call (HA.out _ (mp_bl' HM1.out (Later.below _)))) | exact rfl))
      refine wpQuiet_nil ?_
      rintro w9 ⟨⟨_, hb9⟩, rfl⟩
      go_wp2
      go_ret
      exact ⟨rfl, mp_bl' HM1.out hb9⟩
    · have HT := hide (show X.takes x s.i = some 1 by unfold Mx.takes; rw [if_neg hk8, if_neg hk9, if_neg hk10, if_neg hk11, if_pos hi0, if_pos hr])
      rw [HT.out]
      clear hi0 hr
      clear hk hk1 hk7 hk5 hk6 hk8 hk9 hk10 hk11 HT hkk
      go_enter Tryz.func59, Tryz.ntmps59
      go_wp2_with fail
      refine wp_region_later (by kernel_rfl) (by kernel_rfl) ?_
      repeat (go_big_quiet_step (first | (go_at_call 77; exact later_call (HC.out _ (mp_bl' HM1.out (Later.below _)))) | (go_at_call 76; exact later_call (HA.out _ (mp_bl' HM1.out (Later.below _)))) | exact rfl))
      refine wpQuiet_nil ?_
      rintro w9 ⟨⟨_, hb9⟩, rfl⟩
      have HM9 := hide (mp_bl' HM1.out hb9)
      have y5' : w9.cell? ⟨X.m, 5, none⟩ = some (.int .i64 ((s.i : Nat) : Int)) := by obtain ⟨_, _, _, hc⟩ := mp_cs HM9.out; exact hc.c 5 _ rfl
      have f5' : w9.frozen? ⟨X.m, 5, none⟩ = false := by obtain ⟨_, _, _, hc⟩ := mp_cs HM9.out; exact hc.f 5
      have HM10 := hide (mp_at HM9.out (s.i + 1))
      go_wp2
      go_ret
      exact ⟨rfl, HM10.out⟩
  · have HT := hide (show X.takes x s.i = none by unfold Mx.takes; rw [if_neg hk8, if_neg hk9, if_neg hk10, if_neg hk11, if_neg hi0])
    rw [HT.out]
    have q5 : (((s.i : Nat) : Int) == (X.ps.length : Int) - 1) = true := beq_iff_eq.2 (by omega)
    clear hi0
    clear hk hk1 hk7 hk5 hk6 hk8 hk9 hk10 hk11 HT hkk
    go_enter Tryz.func59, Tryz.ntmps59
    go_wp2_with fail
    go_quiet (fail)
    go_wp2
    go_ret
    exact ⟨rfl, mp_bl' HM1.out (bl_drewN (bl_refl _) _)⟩
end
end Go.Proofs.YtcnliipkfccohabGreat
end
section
namespace Go.Proofs.YtcnliipkfccohabGreat
open Go.ChangeShapes Go.WideShapes Go.ChangeAt Go.RowKit
open SetM SpanM
attribute [local go_sem ↓] Go.wp_at_zero Go.wp_at_succ
set_option maxRecDepth 100000
set_option linter.unusedVariables false
attribute [local go_sem] later_cell later_frozen
section
variable {X : Mx} {R : World} {S : List Nat} {w w' : World}
theorem mp_get {s : Ms} (h : MP X R S s w) : w.cell? ⟨X.m, 5, none⟩ = some (.int .i64 ((s.i : Nat) : Int)) ∧ X.m < w.heap.size ∧ Below X.W.heap.size X.W w ∧ X.W.heap.size ≤ X.m := by
  obtain ⟨_, _, _, _, hr, hc⟩ := h
  exact ⟨hc.c 5 _ rfl, hc.s, hr.bW, hr.mlt⟩
def TaskAt (X : Mx) (R : World) (S : List Nat) (b : Nat) (wh : Int) (q : Nat) (n fr : Int) : Prop :=
  ∀ s W, MP X R S s W → W.cell? ⟨b, 0, none⟩ = some (.int .i64 wh) ∧ W.cell? ⟨b, 1, none⟩ = some (.pointer (some ⟨q, 0, none⟩)) ∧ W.cell? ⟨b, 2, none⟩ = some (.int .i64 n) ∧ W.cell? ⟨b, 3, none⟩ = some (.int .i64 fr) ∧ b < W.heap.size
theorem drop_cons {α : Type} (l : List α) (n : Nat) (h : n < l.length) : l.drop n = l[n] :: l.drop (n + 1) := List.drop_eq_getElem_cons h
def Mx.of (X : Mx) (b : Nat) : Int := ((X.ps.getD b 0 : Nat) : Int)
theorem stretch_m {s : Ms} (hX : X.Ok) (h : MP X R S s w) (a b : Nat) (ha : a < X.ps.length) (hb : b < X.ps.length) :
    Calls Tryz.prog 45 #[.pointer (some ⟨X.m, 0, none⟩), .int .i64 ((a : Nat) : Int), .int .i64 ((b : Nat) : Int)] w fun e w' => e = .returned (.agg #[.int .i64 (X.of a), .int .i64 (X.of b)]) ∧ Below w.heap.size w w' := by
  have e1 : X.of a = ((X.ps[a] : Nat) : Int) := by unfold Mx.of; rw [List.getD_eq_getElem?_getD, List.getElem?_eq_getElem ha, Option.getD_some]
  have e2 : X.of b = ((X.ps[b] : Nat) : Int) := by unfold Mx.of; rw [List.getD_eq_getElem?_getD, List.getElem?_eq_getElem hb, Option.getD_some]
  rw [e1, e2]
  exact stretch_any h a b ha hb (by have := hX.len; omega)
set_option maxHeartbeats 4000000 in
theorem unset_any (w : World) : Calls Tryz.prog 34 #[] w fun e w' => e = .returned (.agg #[.int .i64 (-1), .int .i64 (-1)]) ∧ Below w.heap.size w w' := by
  go_enter Tryz.func34, Tryz.ntmps34
  go_wp2
  refine bodyPost_ret (v := .agg #[.int .i64 (-1), .int .i64 (-1)]) ?_ rfl ⟨rfl, ?_⟩
  · rw [results_cell1 rfl]
    go_simp
  · repeat (first | exact bl_refl _ | refine bl_drew ?_ | refine bl_alloc ?_ _ | refine bl_set ?_ (by simp) _)
theorem nd_row {q : Nat} {x : Rt} {g : Nat} (hn : NdAt X.W q x g) (hl : 0 < x.kids.length) : ∃ (b c : Nat) (q2 : Nat → Nat), b < X.W.heap.size ∧ (∀ W, Below X.W.heap.size X.W W → W.cell? ⟨q, 8, none⟩ = some (.slice (some ⟨b, 0, none⟩) x.kids.length c) ∧ q < W.heap.size ∧ b < W.heap.size ∧ ∀ i, i < x.kids.length → W.cell? ⟨b, i, none⟩ = some (.pointer (some ⟨q2 i, 0, none⟩))) ∧ ∀ i (h : i < x.kids.length), NdAt X.W (q2 i) x.kids[i] (kgo x g + gL (x.kids.take i)) := by
  obtain ⟨kv, q2, hc, hk, hs⟩ := nd_base hn
  have h8 : X.W.cell? ⟨q, 8, none⟩ = some kv := hc 8 _ rfl
  rcases hk with ⟨_, h1⟩ | ⟨b, c, h1, h2, h3, h4⟩
  · omega
  · rw [h1] at h8
    exact ⟨b, c, q2, World.block_lt_of_cell? _ _ (h4 0 hl), fun W hb => ⟨cell_later hb h8, World.block_lt_of_cell? _ _ (cell_later hb h8), World.block_lt_of_cell? _ _ (cell_later hb (h4 0 hl)), fun i hi => cell_later hb (h4 i hi)⟩, hs⟩
set_option maxHeartbeats 16000000 in
theorem do_enter {s : Ms} (hX : X.Ok) (h : MP X R S s w) {b q np : Nat} {x : Rt} {g : Nat} {n fr : Int} (hT : TaskAt X R S b 0 q n fr) (hn : NdAt X.W q x g) (ho : XOk np x g) (hi : s.i + 1 ≤ X.ps.length) (hf : s.f ≤ 20000) :
    Calls Tryz.prog 35 #[.pointer (some ⟨X.m, 0, none⟩), .pointer (some ⟨b, 0, none⟩)] w (DsPost X R S (entM X.takes x g s.todo s)) := by
  obtain ⟨c0, c1, c2, c3, lt⟩ := hT s w h
  have HE := hide (enter_any hX h hn ho hi hf)
  obtain ⟨d, hd⟩ : ∃ d, entM X.takes x g s.todo s = d := ⟨_, rfl⟩
  rw [hd] at HE ⊢
  clear hT hn ho hi hf h hd
  go_enter Tryz.func35, Tryz.ntmps35
  go_wp2_with fail
  refine HE.out.mono ?_
  rintro e w1 hp
  cases d with
  | go s1 =>
    obtain ⟨rfl, hm⟩ := hp
    have HM := hide hm
    clear hm
    go_wp2
    go_ret
    exact ⟨rfl, HM.out⟩
  | failed s1 =>
    obtain ⟨rfl, hm⟩ := hp
    have HM := hide hm
    clear hm
    go_wp2
    go_ret
    exact ⟨rfl, HM.out⟩
  | dry =>
    obtain ⟨rfl, hm⟩ := hp
    have HM := hide hm
    clear hm
    go_wp2
    go_ret
    exact ⟨rfl, HM.out⟩
set_option maxHeartbeats 16000000 in
theorem do_kids {s : Ms} (h : MP X R S s w) {b q : Nat} {Y : Rt} {G n : Nat} {fr : Int} (hT : TaskAt X R S b 1 q ((n : Nat) : Int) fr) (hn : NdAt X.W q Y G) (hl : n ≤ Y.kids.length) (hlen : Y.kids.length ≤ 1000) :
    Calls Tryz.prog 35 #[.pointer (some ⟨X.m, 0, none⟩), .pointer (some ⟨b, 0, none⟩)] w (DsPost X R S (doM X.of X.takes (.kids (Y.kids.drop n) (kgo Y G + gL (Y.kids.take n))) s.todo s)) := by
  by_cases hl0 : n < Y.kids.length
  case neg =>
    obtain rfl : n = Y.kids.length := by omega
    obtain ⟨c0, c1, c2, c3, lt⟩ := hT s w h
    have HD := hide (show doM X.of X.takes (.kids (Y.kids.drop Y.kids.length) (kgo Y G + gL (Y.kids.take Y.kids.length))) s.todo s = .go { s with todo := s.todo } by rw [List.drop_length]; rfl)
    rw [HD.out]
    obtain ⟨kv, q2, hcs, hkr, -⟩ := nd_base hn
    have h8 : X.W.cell? ⟨q, 8, none⟩ = some kv := hcs 8 _ rfl
    have k8 := cell_later (mp_bWQ h) h8
    have lq : q < w.heap.size := World.block_lt_of_cell? _ _ k8
    have HM := hide h
    obtain ⟨kA, kc, rfl⟩ : ∃ A c, kv = .slice A Y.kids.length c := by
      rcases hkr with ⟨h1, h2⟩ | ⟨b2, c2, h1, _⟩
      · exact ⟨none, 0, by rw [h1, h2]⟩
      · exact ⟨_, _, h1⟩
    have e1 : IntKind.i64.wrap (((Y.kids.length : Nat) : Int) + 1) = ((Y.kids.length : Nat) : Int) + 1 := by rw [IntKind.wrap_i64]; omega
    have d1 : decide (((Y.kids.length : Nat) : Int) + 1 < ((Y.kids.length : Nat) : Int)) = false := decide_eq_false (by omega)
    have d1' : decide (Y.kids.length + 1 < Y.kids.length) = false := decide_eq_false (by omega)
    have d2 : decide (((Y.kids.length : Nat) : Int) < ((Y.kids.length : Nat) : Int)) = false := decide_eq_false (by omega)
    have d2' : decide (Y.kids.length < Y.kids.length) = false := decide_eq_false (by omega)
    clear hT hcs h8 hkr hn h hl hl0 hlen
    go_enter Tryz.func35, Tryz.ntmps35
    go_wp2_with fail
    go_quiet (fail)
    go_wp2_with fail
    go_quiet (fail)
    go_wp2
    go_ret
    exact ⟨rfl, mp_bl' HM.out (by repeat (first | exact bl_refl _ | refine bl_drew ?_ | refine bl_drewN ?_ _ | refine bl_alloc ?_ _))⟩
  obtain ⟨kb, kc, q2, hkb, hrow, hnds⟩ := nd_row hn (by omega)
  replace hl := hl0
  clear hl0
  have HROW := hide hrow
  have HT := hide hT
  have HN := hide hn
  have hnd := hnds n hl
  have hdr := drop_cons Y.kids n hl
  have HS1 := hide (fun (s : Ms) (W : World) (h : MP X R S s W) => (show W.cell? ⟨b, 1, none⟩ = some (.pointer (some ⟨q, 0, none⟩)) ∧ W.cell? ⟨b, 2, none⟩ = some (.int .i64 ((n : Nat) : Int)) from ⟨(HT.out s W h).2.1, (HT.out s W h).2.2.1⟩))
  have HS2 := hide (fun (s : Ms) (W : World) (h : MP X R S s W) => (show W.cell? ⟨b, 1, none⟩ = some (.pointer (some ⟨q, 0, none⟩)) ∧ W.cell? ⟨b, 2, none⟩ = some (.int .i64 ((n : Nat) : Int)) ∧ W.cell? ⟨q, 8, none⟩ = some (.slice (some ⟨kb, 0, none⟩) Y.kids.length kc) ∧ W.cell? ⟨kb, n, none⟩ = some (.pointer (some ⟨q2 n, 0, none⟩)) from ⟨(HT.out s W h).2.1, (HT.out s W h).2.2.1, (HROW.out _ (mp_bWQ h)).1, (HROW.out _ (mp_bWQ h)).2.2.2 n hl⟩))
  have e1 : IntKind.i64.wrap (((n : Nat) : Int) + 1) = ((n : Nat) : Int) + 1 := by rw [IntKind.wrap_i64]; omega
  have i1 : (0 : Int) ≤ ((n : Nat) : Int) := by omega
  have i2 : ((n : Nat) : Int) < ((Y.kids.length : Nat) : Int) := by omega
  have d2 : decide (((n : Nat) : Int) < ((Y.kids.length : Nat) : Int)) = true := decide_eq_true (by omega)
  have d2' : decide (n < Y.kids.length) = true := decide_eq_true hl
  by_cases h2 : n + 1 < Y.kids.length
  · have HD := hide (show doM X.of X.takes (.kids (Y.kids.drop n) (kgo Y G + gL (Y.kids.take n))) s.todo s = .go { s with todo := .enter Y.kids[n] (kgo Y G + gL (Y.kids.take n)) :: .kids (Y.kids.drop (n + 1)) (kgo Y G + gL (Y.kids.take (n + 1))) :: s.todo } by
      rw [hdr, drop_cons Y.kids (n + 1) h2, gL_snoc Y.kids n hl, ← Nat.add_assoc]; rfl)
    rw [HD.out]
    have d1 : decide (((n : Nat) : Int) + 1 < ((Y.kids.length : Nat) : Int)) = true := decide_eq_true (by omega)
    have d1' : decide (n + 1 < Y.kids.length) = true := decide_eq_true h2
    have TW1 := hide (TwAt.kids q Y G (n + 1) 0 HN.out (Nat.le_of_lt h2) hlen)
    have TW2 := hide (TwAt.enter (q2 n) Y.kids[n] (kgo Y G + gL (Y.kids.take n)) 0 0 hnd)
    obtain ⟨c0, c1, c2, c3, lt⟩ := HT.out s w h
    obtain ⟨k8, lq, lb, krow⟩ := HROW.out _ (mp_bWQ h)
    have kn := krow n hl
    have HM := hide h
    have HL := hide hl
    clear krow hT hn hnds hnd hdr h hrow h2 hlen
    go_enter Tryz.func35, Tryz.ntmps35
    go_wp2_with fail
    go_quiet (fail)
    go_wp2_with fail
    go_region_held3 (fun W => W.cell? ⟨b, 1, none⟩ = some (.pointer (some ⟨q, 0, none⟩)) ∧ W.cell? ⟨b, 2, none⟩ = some (.int .i64 ((n : Nat) : Int)))
      (first | (refine ⟨?_, ?_⟩ <;> (repeat (first | with_reducible assumption | with_reducible refine dr_blk ?_)); done) | go_keep)
      (first | (go_at_call 60; refine (then_any (mp_bl' HM.out (by repeat (first | exact bl_refl _ | refine bl_drew ?_ | refine bl_drewN ?_ _ | refine bl_alloc ?_ _))) (TW1.out)).mono ?_; rintro e w1 ⟨rfl, hm_w1⟩; have hS_w1 := HS1.out _ _ hm_w1; obtain ⟨s0_w1, s1_w1⟩ := hS_w1) | fail)
    have HM_w1 := hide hm_w1
    clear hm_w1 s0_w1 s1_w1
    clear c0 c1 c2 c3 lt k8 lq lb kn
    obtain ⟨c0, c1, c2, c3, lt⟩ := HT.out _ _ HM_w1.out
    obtain ⟨k8, lq, lb, krow⟩ := HROW.out _ (mp_bWQ HM_w1.out)
    have kn := krow n HL.out
    clear krow
    go_wp2_with fail
    go_quiet (fail)
    go_wp2_with fail
    go_region_held3 (fun W => W.cell? ⟨b, 1, none⟩ = some (.pointer (some ⟨q, 0, none⟩)) ∧ W.cell? ⟨b, 2, none⟩ = some (.int .i64 ((n : Nat) : Int)) ∧ W.cell? ⟨q, 8, none⟩ = some (.slice (some ⟨kb, 0, none⟩) Y.kids.length kc) ∧ W.cell? ⟨kb, n, none⟩ = some (.pointer (some ⟨q2 n, 0, none⟩)))
      (first | (refine ⟨?_, ?_, ?_, ?_⟩ <;> (repeat (first | with_reducible assumption | with_reducible refine dr_blk ?_)); done) | go_keep)
      (first | (go_at_call 60; refine (then_any (mp_bl' HM_w1.out (by repeat (first | exact bl_refl _ | refine bl_drew ?_ | refine bl_drewN ?_ _ | refine bl_alloc ?_ _))) (TW2.out)).mono ?_; rintro e w2 ⟨rfl, hm_w2⟩; have hS_w2 := HS2.out _ _ hm_w2; obtain ⟨s0_w2, s1_w2, s2_w2, s3_w2⟩ := hS_w2) | fail)
    have HM_w2 := hide hm_w2
    clear hm_w2 s0_w2 s1_w2 s2_w2 s3_w2
    go_wp2
    go_ret
    exact ⟨rfl, HM_w2.out⟩
  · have hln : Y.kids.length = n + 1 := by omega
    have HD := hide (show doM X.of X.takes (.kids (Y.kids.drop n) (kgo Y G + gL (Y.kids.take n))) s.todo s = .go { s with todo := .enter Y.kids[n] (kgo Y G + gL (Y.kids.take n)) :: s.todo } by
      rw [hdr, List.drop_eq_nil_of_le (by omega)]; rfl)
    rw [HD.out]
    have d1 : decide (((n : Nat) : Int) + 1 < ((Y.kids.length : Nat) : Int)) = false := decide_eq_false (by omega)
    have d1' : decide (n + 1 < Y.kids.length) = false := decide_eq_false h2
    have TW2 := hide (TwAt.enter (q2 n) Y.kids[n] (kgo Y G + gL (Y.kids.take n)) 0 0 hnd)
    obtain ⟨c0, c1, c2, c3, lt⟩ := HT.out s w h
    obtain ⟨k8, lq, lb, krow⟩ := HROW.out _ (mp_bWQ h)
    have kn := krow n hl
    have HM := hide h
    have HL := hide hl
    clear krow hT hn hnds hnd hdr h hrow h2 hln hlen
    go_enter Tryz.func35, Tryz.ntmps35
    go_wp2_with fail
    go_quiet (fail)
    go_wp2_with fail
    go_quiet (fail)
    go_wp2_with fail
    go_region_held3 (fun W => W.cell? ⟨b, 1, none⟩ = some (.pointer (some ⟨q, 0, none⟩)) ∧ W.cell? ⟨b, 2, none⟩ = some (.int .i64 ((n : Nat) : Int)) ∧ W.cell? ⟨q, 8, none⟩ = some (.slice (some ⟨kb, 0, none⟩) Y.kids.length kc) ∧ W.cell? ⟨kb, n, none⟩ = some (.pointer (some ⟨q2 n, 0, none⟩)))
      (first | (refine ⟨?_, ?_, ?_, ?_⟩ <;> (repeat (first | with_reducible assumption | with_reducible refine dr_blk ?_)); done) | go_keep)
      (first | (go_at_call 60; refine (then_any (mp_bl' HM.out (by repeat (first | exact bl_refl _ | refine bl_drew ?_ | refine bl_drewN ?_ _ | refine bl_alloc ?_ _))) (TW2.out)).mono ?_; rintro e w2 ⟨rfl, hm_w2⟩; have hS_w2 := HS2.out _ _ hm_w2; obtain ⟨s0_w2, s1_w2, s2_w2, s3_w2⟩ := hS_w2) | fail)
    have HM_w2 := hide hm_w2
    clear hm_w2 s0_w2 s1_w2 s2_w2 s3_w2
    go_wp2
    go_ret
    exact ⟨rfl, HM_w2.out⟩
set_option maxHeartbeats 16000000 in
theorem do_others {s : Ms} (h : MP X R S s w) {b q : Nat} {Y : Rt} {G n : Nat} {fr : Int} (hT : TaskAt X R S b 2 q ((n : Nat) : Int) fr) (hn : NdAt X.W q Y G) (hl : n < Y.kids.length) (hlen : Y.kids.length ≤ 1000) (hC : s.C.length ≤ 50000000) :
    Calls Tryz.prog 35 #[.pointer (some ⟨X.m, 0, none⟩), .pointer (some ⟨b, 0, none⟩)] w (DsPost X R S (doM X.of X.takes (.others (Y.kids.drop n) (kgo Y G + gL (Y.kids.take n))) s.todo s)) := by
  obtain ⟨kb, kc, q2, hkb, hrow, hnds⟩ := nd_row hn (by omega)
  have HROW := hide hrow
  have HT := hide hT
  have HN := hide hn
  have hnd := hnds n hl
  have hdr := drop_cons Y.kids n hl
  have e1 : IntKind.i64.wrap (((n : Nat) : Int) + 1) = ((n : Nat) : Int) + 1 := by rw [IntKind.wrap_i64]; omega
  have HS1 := hide (fun (s : Ms) (W : World) (h : MP X R S s W) => (show W.cell? ⟨b, 1, none⟩ = some (.pointer (some ⟨q, 0, none⟩)) ∧ W.cell? ⟨b, 2, none⟩ = some (.int .i64 ((n : Nat) : Int)) from ⟨(HT.out s W h).2.1, (HT.out s W h).2.2.1⟩))
  have HS2 := hide (fun (s : Ms) (W : World) (h : MP X R S s W) => (show W.cell? ⟨b, 1, none⟩ = some (.pointer (some ⟨q, 0, none⟩)) ∧ W.cell? ⟨b, 2, none⟩ = some (.int .i64 ((n : Nat) : Int)) ∧ W.cell? ⟨q, 8, none⟩ = some (.slice (some ⟨kb, 0, none⟩) Y.kids.length kc) ∧ W.cell? ⟨kb, n, none⟩ = some (.pointer (some ⟨q2 n, 0, none⟩)) from ⟨(HT.out s W h).2.1, (HT.out s W h).2.2.1, (HROW.out _ (mp_bWQ h)).1, (HROW.out _ (mp_bWQ h)).2.2.2 n hl⟩))
  have i1 : (0 : Int) ≤ ((n : Nat) : Int) := by omega
  have i2 : ((n : Nat) : Int) < ((Y.kids.length : Nat) : Int) := by omega
  obtain ⟨c0, c1, c2, c3, lt⟩ := HT.out s w h
  obtain ⟨k8, lq, lb, krow⟩ := HROW.out _ (mp_bWQ h)
  have kn := krow n hl
  have HM := hide h
  have HL := hide hl
  have TW2 := hide (TwAt.enter (q2 n) Y.kids[n] (kgo Y G + gL (Y.kids.take n)) 0 0 hnd)
  by_cases h2 : n + 1 < Y.kids.length
  · have HD := hide (show doM X.of X.takes (.others (Y.kids.drop n) (kgo Y G + gL (Y.kids.take n))) s.todo s = .go { s with todo := .enter Y.kids[n] (kgo Y G + gL (Y.kids.take n)) :: s.todo, C := ⟨.others (Y.kids.drop (n + 1)) (kgo Y G + gL (Y.kids.take (n + 1))) :: s.todo, s.i, s.tr.length⟩ :: s.C } by
      rw [hdr, drop_cons Y.kids (n + 1) h2, gL_snoc Y.kids n hl, ← Nat.add_assoc]; rfl)
    rw [HD.out]
    have d1 : decide (((n : Nat) : Int) + 1 < ((Y.kids.length : Nat) : Int)) = true := decide_eq_true (by omega)
    have d1' : decide (n + 1 < Y.kids.length) = true := decide_eq_true h2
    have TW1 := hide (TwAt.others q Y G (n + 1) 0 HN.out h2 hlen)
    have HCC := hide hC
    clear krow hT hn hnds hnd hdr h hrow h2 hlen hl hC
    go_enter Tryz.func35, Tryz.ntmps35
    go_wp2_with fail
    go_quiet (fail)
    go_wp2_with fail
    go_region_held3 (fun W => W.cell? ⟨b, 1, none⟩ = some (.pointer (some ⟨q, 0, none⟩)) ∧ W.cell? ⟨b, 2, none⟩ = some (.int .i64 ((n : Nat) : Int)))
      (first | (refine ⟨?_, ?_⟩ <;> (repeat (first | with_reducible assumption | with_reducible refine dr_blk ?_)); done) | go_keep)
      (first | (go_at_call 61; refine (orElse_any (mp_bl' HM.out (by repeat (first | exact bl_refl _ | refine bl_drew ?_ | refine bl_drewN ?_ _ | refine bl_alloc ?_ _))) TW1.out HCC.out).mono ?_; rintro e w1 ⟨rfl, hm_w1⟩; have hS_w1 := HS1.out _ _ hm_w1; obtain ⟨s0_w1, s1_w1⟩ := hS_w1) | fail)
    have HM_w1 := hide hm_w1
    clear hm_w1 s0_w1 s1_w1
    clear c0 c1 c2 c3 lt k8 lq lb kn
    obtain ⟨c0, c1, c2, c3, lt⟩ := HT.out _ _ HM_w1.out
    obtain ⟨k8, lq, lb, krow⟩ := HROW.out _ (mp_bWQ HM_w1.out)
    have kn := krow n HL.out
    clear krow
    go_wp2_with fail
    go_region_held3 (fun W => W.cell? ⟨b, 1, none⟩ = some (.pointer (some ⟨q, 0, none⟩)) ∧ W.cell? ⟨b, 2, none⟩ = some (.int .i64 ((n : Nat) : Int)) ∧ W.cell? ⟨q, 8, none⟩ = some (.slice (some ⟨kb, 0, none⟩) Y.kids.length kc) ∧ W.cell? ⟨kb, n, none⟩ = some (.pointer (some ⟨q2 n, 0, none⟩)))
      (first | (refine ⟨?_, ?_, ?_, ?_⟩ <;> (repeat (first | with_reducible assumption | with_reducible refine dr_blk ?_)); done) | go_keep)
      (first | (go_at_call 60; refine (then_any (mp_bl' HM_w1.out (by repeat (first | exact bl_refl _ | refine bl_drew ?_ | refine bl_drewN ?_ _ | refine bl_alloc ?_ _))) (TW2.out)).mono ?_; rintro e w2 ⟨rfl, hm_w2⟩; have hS_w2 := HS2.out _ _ hm_w2; obtain ⟨s0_w2, s1_w2, s2_w2, s3_w2⟩ := hS_w2) | fail)
    have HM_w2 := hide hm_w2
    clear hm_w2 s0_w2 s1_w2 s2_w2 s3_w2
    go_wp2
    go_ret
    exact ⟨rfl, HM_w2.out⟩
  · have hln : Y.kids.length = n + 1 := by omega
    have HD := hide (show doM X.of X.takes (.others (Y.kids.drop n) (kgo Y G + gL (Y.kids.take n))) s.todo s = .go { s with todo := .enter Y.kids[n] (kgo Y G + gL (Y.kids.take n)) :: s.todo } by
      rw [hdr, List.drop_eq_nil_of_le (by omega)]; rfl)
    rw [HD.out]
    have d1 : decide (((n : Nat) : Int) + 1 < ((Y.kids.length : Nat) : Int)) = false := decide_eq_false (by omega)
    have d1' : decide (n + 1 < Y.kids.length) = false := decide_eq_false h2
    clear krow hT hn hnds hnd hdr h hrow h2 hln hlen hl hC
    go_enter Tryz.func35, Tryz.ntmps35
    go_wp2_with fail
    go_quiet (fail)
    go_wp2_with fail
    go_region_held3 (fun W => W.cell? ⟨b, 1, none⟩ = some (.pointer (some ⟨q, 0, none⟩)) ∧ W.cell? ⟨b, 2, none⟩ = some (.int .i64 ((n : Nat) : Int)) ∧ W.cell? ⟨q, 8, none⟩ = some (.slice (some ⟨kb, 0, none⟩) Y.kids.length kc) ∧ W.cell? ⟨kb, n, none⟩ = some (.pointer (some ⟨q2 n, 0, none⟩)))
      (first | (refine ⟨?_, ?_, ?_, ?_⟩ <;> (repeat (first | with_reducible assumption | with_reducible refine dr_blk ?_)); done) | go_keep)
      (first | (go_at_call 60; refine (then_any (mp_bl' HM.out (by repeat (first | exact bl_refl _ | refine bl_drew ?_ | refine bl_drewN ?_ _ | refine bl_alloc ?_ _))) (TW2.out)).mono ?_; rintro e w2 ⟨rfl, hm_w2⟩; have hS_w2 := HS2.out _ _ hm_w2; obtain ⟨s0_w2, s1_w2, s2_w2, s3_w2⟩ := hS_w2) | fail)
    have HM_w2 := hide hm_w2
    clear hm_w2 s0_w2 s1_w2 s2_w2 s3_w2
    go_wp2
    go_ret
    exact ⟨rfl, HM_w2.out⟩
set_option maxHeartbeats 16000000 in
theorem do_again {s : Ms} (h : MP X R S s w) {b q : Nat} {Y : Rt} {G n : Nat} {fr : Int} (hT : TaskAt X R S b 3 q ((n : Nat) : Int) fr) (hn : NdAt X.W q Y G) (h0 : 0 ≤ Y.mi) (hm : Y.ma ≠ -1 → ((n : Nat) : Int) ≤ Y.ma) (hC : s.C.length ≤ 50000000) :
    Calls Tryz.prog 35 #[.pointer (some ⟨X.m, 0, none⟩), .pointer (some ⟨b, 0, none⟩)] w (DsPost X R S (doM X.of X.takes (.again Y G n) s.todo s)) := by
  have HT := hide hT
  have HS1 := hide (fun (s : Ms) (W : World) (h : MP X R S s W) => (show W.cell? ⟨b, 1, none⟩ = some (.pointer (some ⟨q, 0, none⟩)) ∧ W.cell? ⟨b, 2, none⟩ = some (.int .i64 ((n : Nat) : Int)) from ⟨(HT.out s W h).2.1, (HT.out s W h).2.2.1⟩))
  obtain ⟨c0, c1, c2, c3, lt⟩ := hT s w h
  have HM := hide h
  have HDE := hide (fun (W : World) (h : MP X R S s W) => decide_any h hn h0 hm hC)
  have HD := hide (show doM X.of X.takes (.again Y G n) s.todo s = .go (decM Y G n s.todo s) from rfl)
  rw [HD.out]
  clear hT hn h0 hm hC h
  go_enter Tryz.func35, Tryz.ntmps35
  go_wp2_with fail
  go_region_held3 (fun W => W.cell? ⟨b, 1, none⟩ = some (.pointer (some ⟨q, 0, none⟩)) ∧ W.cell? ⟨b, 2, none⟩ = some (.int .i64 ((n : Nat) : Int)))
    (first | (refine ⟨?_, ?_⟩ <;> (repeat (first | with_reducible assumption | with_reducible refine dr_blk ?_)); done) | go_keep)
    (first | (go_at_call 62; refine (HDE.out _ (mp_bl' HM.out (by repeat (first | exact bl_refl _ | refine bl_drew ?_ | refine bl_drewN ?_ _ | refine bl_alloc ?_ _)))).mono ?_; rintro e w1 ⟨rfl, hm_w1⟩; have hS_w1 := HS1.out _ _ hm_w1; obtain ⟨s0_w1, s1_w1⟩ := hS_w1) | fail)
  have HM_w1 := hide hm_w1
  clear hm_w1 s0_w1 s1_w1
  go_wp2
  go_ret
  exact ⟨rfl, HM_w1.out⟩
theorem clrM_snoc (C : List Ch) : ∀ (k g : Nat) (p : List (Int × Int)) (tr : List (Nat × (Int × Int))), clrM C g (k + 1) p tr = setM C (clrM C g k p tr).1 (clrM C g k p tr).2 (g + k) (-1, -1)
  | 0, g, p, tr => rfl
  | k + 1, g, p, tr => by
    have h := clrM_snoc C k (g + 1) (setM C p tr g (-1, -1)).1 (setM C p tr g (-1, -1)).2
    show clrM C (g + 1) (k + 1) (setM C p tr g (-1, -1)).1 (setM C p tr g (-1, -1)).2 = _
    rw [h, show g + 1 + k = g + (k + 1) by omega]
    rfl
set_option maxHeartbeats 16000000 in
theorem do_begin {s : Ms} (h : MP X R S s w) {b q : Nat} {Y y : Rt} {G n : Nat} {fr : Int} (hT : TaskAt X R S b 4 q ((n : Nat) : Int) fr) (hn : NdAt X.W q Y G) (hk7 : Y.k = 7) (hy : Y.kids = [y]) (hg : G + gM Y ≤ X.np) (hnp : X.np ≤ 1000) (hpl : s.p.length = X.np) (htr : (∀ e ∈ s.tr, e.1 < s.p.length) ∧ s.tr.length ≤ 41002050) :
    Calls Tryz.prog 35 #[.pointer (some ⟨X.m, 0, none⟩), .pointer (some ⟨b, 0, none⟩)] w (DsPost X R S (doM X.of X.takes (.begin Y G n) s.todo s)) := by
  have HT := hide hT
  obtain ⟨kb, kc, qy, h8, hk0, hny⟩ := nd_one hn hy
  rw [show kgo Y G = G by unfold kgo; rw [if_neg (by omega)]] at hny
  obtain ⟨kv, q2, hcs, -, -⟩ := nd_base hn
  have h9 : X.W.cell? ⟨q, 9, none⟩ = some (.int .i64 ((G : Nat) : Int)) := hcs 9 _ rfl
  have h10 : X.W.cell? ⟨q, 10, none⟩ = some (.int .i64 ((G + gM Y : Nat) : Int)) := hcs 10 _ rfl
  obtain ⟨Z, hZ⟩ : ∃ z, G + gM Y = z := ⟨_, rfl⟩
  rw [hZ] at h10
  have HS := hide (fun (s1 : Ms) (W : World) (h : MP X R S s1 W) (hi : s1.i = s.i) => (show W.cell? ⟨b, 1, none⟩ = some (.pointer (some ⟨q, 0, none⟩)) ∧ W.cell? ⟨b, 2, none⟩ = some (.int .i64 ((n : Nat) : Int)) ∧ W.cell? ⟨q, 9, none⟩ = some (.int .i64 ((G : Nat) : Int)) ∧ W.cell? ⟨q, 10, none⟩ = some (.int .i64 ((Z : Nat) : Int)) ∧ W.cell? ⟨q, 8, none⟩ = some (.slice (some ⟨kb, 0, none⟩) 1 kc) ∧ W.cell? ⟨kb, 0, none⟩ = some (.pointer (some ⟨qy, 0, none⟩)) ∧ W.cell? ⟨X.m, 5, none⟩ = some (.int .i64 ((s.i : Nat) : Int)) from ⟨(HT.out s1 W h).2.1, (HT.out s1 W h).2.2.1, cell_later (mp_bWQ h) h9, cell_later (mp_bWQ h) h10, cell_later (mp_bWQ h) h8, cell_later (mp_bWQ h) hk0, by rw [← hi]; exact (mp_get h).1⟩))
  have HLT := hide (fun (s1 : Ms) (W : World) (h : MP X R S s1 W) => (show b < W.heap.size ∧ q < W.heap.size ∧ kb < W.heap.size ∧ X.m < W.heap.size from ⟨(HT.out s1 W h).2.2.2.2, World.block_lt_of_cell? _ _ (cell_later (mp_bWQ h) h9), World.block_lt_of_cell? _ _ (cell_later (mp_bWQ h) hk0), (mp_get h).2.1⟩))
  have HC0 := hide (hT s w h).1
  have TW1 := hide (TwAt.ended q Y G n s.i hn)
  have TW2 := hide (TwAt.enter qy y G 0 0 hny)
  have HM := hide h
  have HG := hide hg
  have HTR := hide htr
  have HNP := hide hnp
  have HPL := hide hpl
  have HD := hide (show doM X.of X.takes (.begin Y G n) s.todo s = .go { s with todo := .enter y G :: .ended Y G n s.i :: s.todo, p := (clrM s.C G (gM Y) s.p s.tr).1, tr := (clrM s.C G (gM Y) s.p s.tr).2 } by
    show (match Y.kids with | [y] => _ | _ => _) = _
    rw [hy])
  rw [HD.out]
  obtain ⟨s1, s2, s9, s10, s8, sk, s5⟩ := HS.out s w h rfl
  obtain ⟨l1, l2, l3, l4⟩ := HLT.out s w h
  have c0 := HC0.out
  have hGb : Z ≤ 1000 := by omega
  have HZ := hide hZ
  clear hT hn hcs h9 h10 h8 hk0 hny hy h htr hpl hnp hg hZ
  go_enter Tryz.func35, Tryz.ntmps35
  go_wp2
  go_loopw [5] (fun v wr => ∃ k gk : Nat, v = .int .i64 ((gk : Nat) : Int) ∧ Hid (G + k = gk) ∧ k ≤ gM Y ∧ Hid (MP X R S { s with p := (clrM s.C G k s.p s.tr).1, tr := (clrM s.C G k s.p s.tr).2 } wr)) (fun v _ => Z - (intOf v).toNat)
  case atStart => exact ⟨0, G, rfl, hide rfl, Nat.zero_le _, HM⟩
  case round =>
    obtain ⟨k, gk, rfl, HGK, hk, HK⟩ := hrel
    clear s1 s2 s9 s10 s8 sk s5 l1 l2 l3 l4 c0
    obtain ⟨s1, s2, s9, s10, s8, sk, s5⟩ := HS.out _ _ HK.out rfl
    obtain ⟨l1, l2, l3, l4⟩ := HLT.out _ _ HK.out
    by_cases hlt : k < gM Y
    · obtain ⟨q1, q2, q3, q4⟩ := clrM_ok (C := s.C) (np := s.p.length) k G s.p s.tr (by have := HG.out; have := HPL.out; omega) HTR.out.1
      have HSET := hide (fun (W : World) (h : MP X R S { s with p := (clrM s.C G k s.p s.tr).1, tr := (clrM s.C G k s.p s.tr).2 } W) => (set_any h (G + k) (by show G + k < (clrM s.C G k s.p s.tr).1.length; rw [q1]; have := HG.out; have := HPL.out; omega) (-1) (-1) HNP.out (by show (clrM s.C G k s.p s.tr).2.length ≤ 50000000; have := HTR.out.2; have := HZ.out; omega)).mono (fun e w' hh => (show e = .returned (.tuple #[]) ∧ MP X R S { s with p := (clrM s.C G (k + 1) s.p s.tr).1, tr := (clrM s.C G (k + 1) s.p s.tr).2 } w' from ⟨hh.1, by rw [clrM_snoc]; exact hh.2⟩)))
      have HK1 := hide (show k + 1 ≤ gM Y by omega)
      have hgk := HGK.out
      have hz := HZ.out
      have d1 : decide (((gk : Nat) : Int) < ((Z : Nat) : Int)) = true := decide_eq_true (by omega)
      have d1' : decide (gk < Z) = true := decide_eq_true (by omega)
      have hgb : gk < Z := by omega
      have HGK1 := hide (show G + (k + 1) = gk + 1 by omega)
      rw [hgk] at HSET
      clear q1 q2 q3 q4 hlt hk hgk hz HGK
      go_wp2_with fail
      refine (unset_any _).mono ?_
      rintro e w1 ⟨rfl, hb1⟩
      have HK2 := hide (mp_bl' HK.out hb1)
      clear hb1
      go_wp2_with fail
      refine (HSET.out _ HK2.out).mono ?_
      rintro e w2 ⟨rfl, hm2⟩
      have HM2 := hide hm2
      clear hm2
      go_wp2
      refine ⟨?_, by first | (simp [intOf]; done) | (simp [intOf]; omega)⟩
      first
        | exact ⟨k + 1, gk + 1, by go_num, HGK1, HK1.out, HM2⟩
        | ((repeat apply Exists.intro); exact ⟨⟨k + 1, gk + 1, by go_num, HGK1, HK1.out, HM2⟩, rfl⟩)
    · obtain rfl : k = gM Y := by omega
      obtain rfl : gk = Z := by have := HGK.out; have := HZ.out; omega
      have d1 : decide (((gk : Nat) : Int) < ((gk : Nat) : Int)) = false := by simp
      have d1' : decide (gk < gk) = false := by simp
      have HSR := hide (fun (s1 : Ms) (W : World) (h : MP X R S s1 W) (hi : s1.i = s.i) => (show W.cell? ⟨b, 1, none⟩ = some (.pointer (some ⟨q, 0, none⟩)) ∧ W.cell? ⟨b, 2, none⟩ = some (.int .i64 ((n : Nat) : Int)) ∧ W.cell? ⟨X.m, 5, none⟩ = some (.int .i64 ((s.i : Nat) : Int)) from ⟨(HS.out s1 W h hi).1, (HS.out s1 W h hi).2.1, (HS.out s1 W h hi).2.2.2.2.2.2⟩))
      clear hlt hk
      go_wp2_with fail
      go_region_held3 (fun W => W.cell? ⟨b, 1, none⟩ = some (.pointer (some ⟨q, 0, none⟩)) ∧ W.cell? ⟨b, 2, none⟩ = some (.int .i64 ((n : Nat) : Int)) ∧ W.cell? ⟨X.m, 5, none⟩ = some (.int .i64 ((s.i : Nat) : Int)))
        (first | (refine ⟨?_, ?_, ?_⟩ <;> (repeat (first | with_reducible assumption | with_reducible refine dr_blk ?_)); done) | go_keep)
        (first | (go_at_call 60; refine (then_any (mp_bl' HK.out (by repeat (first | exact bl_refl _ | refine bl_drew ?_ | refine bl_drewN ?_ _ | refine bl_alloc ?_ _))) (TW1.out)).mono ?_; rintro e w1 ⟨rfl, hm_w1⟩; obtain ⟨s0_w1, s1_w1, s2_w1⟩ := HSR.out _ _ hm_w1 rfl) | fail)
      have HM1 := hide hm_w1
      clear hm_w1 s0_w1 s1_w1 s2_w1 s1 s2 s9 s10 s8 sk s5 l1 l2 l3 l4
      obtain ⟨s1, s2, s9, s10, s8, sk, s5⟩ := HS.out _ _ HM1.out rfl
      obtain ⟨l1, l2, l3, l4⟩ := HLT.out _ _ HM1.out
      go_wp2_with fail
      refine (then_any HM1.out TW2.out).mono ?_
      rintro e w2 ⟨rfl, hm2⟩
      have HM2 := hide hm2
      clear hm2
      go_wp2
      go_ret
      exact ⟨rfl, HM2.out⟩
set_option maxHeartbeats 16000000 in
theorem do_ended {s : Ms} (h : MP X R S s w) {b q : Nat} {Y : Rt} {G n bb : Nat} (hT : TaskAt X R S b 5 q ((n : Nat) : Int) ((bb : Nat) : Int)) (hn : NdAt X.W q Y G) (hnn : n ≤ 100000) :
    Calls Tryz.prog 35 #[.pointer (some ⟨X.m, 0, none⟩), .pointer (some ⟨b, 0, none⟩)] w (DsPost X R S (doM X.of X.takes (.ended Y G n bb) s.todo s)) := by
  have HT := hide hT
  obtain ⟨kv, q2, hcs, -, -⟩ := nd_base hn
  have h4 : X.W.cell? ⟨q, 4, none⟩ = some (.int .i64 Y.mi) := hcs 4 _ rfl
  have HS1 := hide (fun (s : Ms) (W : World) (h : MP X R S s W) => (show W.cell? ⟨b, 1, none⟩ = some (.pointer (some ⟨q, 0, none⟩)) ∧ W.cell? ⟨b, 2, none⟩ = some (.int .i64 ((n : Nat) : Int)) from ⟨(HT.out s W h).2.1, (HT.out s W h).2.2.1⟩))
  obtain ⟨c0, c1, c2, c3, lt⟩ := hT s w h
  have k4 := cell_later (mp_bWQ h) h4
  have lq : q < w.heap.size := World.block_lt_of_cell? _ _ k4
  obtain ⟨m5, lm, -, -⟩ := mp_get h
  have TW := hide (TwAt.again q Y G (n + 1) 0 hn)
  have HM := hide h
  have e1 : IntKind.i64.wrap (((n : Nat) : Int) + 1) = ((n : Nat) : Int) + 1 := by rw [IntKind.wrap_i64]; omega
  clear hT hcs h4 hn h
  by_cases h1 : Y.mi ≤ ((n : Nat) : Int)
  · have d1 : decide (Y.mi ≤ ((n : Nat) : Int)) = true := decide_eq_true h1
    by_cases h2 : s.i = bb
    · have d2 : (((s.i : Nat) : Int) == ((bb : Nat) : Int)) = true := by rw [h2]; simp
      have d2' : (s.i == bb) = true := by rw [h2]; simp
      have HD := hide (show doM X.of X.takes (.ended Y G n bb) s.todo s = .failed { s with todo := s.todo } by show (if _ then _ else _) = _; rw [if_pos ⟨h1, h2⟩])
      rw [HD.out]
      clear h1 h2
      go_enter Tryz.func35, Tryz.ntmps35
      go_wp2_with fail
      go_quiet (fail)
      go_wp2
      go_ret
      exact ⟨rfl, mp_bl' HM.out (by repeat (first | exact bl_refl _ | refine bl_drew ?_ | refine bl_drewN ?_ _ | refine bl_alloc ?_ _))⟩
    · have d2 : (((s.i : Nat) : Int) == ((bb : Nat) : Int)) = false := beq_eq_false_iff_ne.2 (by omega)
      have d2' : (s.i == bb) = false := beq_eq_false_iff_ne.2 h2
      have HD := hide (show doM X.of X.takes (.ended Y G n bb) s.todo s = .go { s with todo := .again Y G (n + 1) :: s.todo } by show (if _ then _ else _) = _; rw [if_neg (fun hh => h2 hh.2)])
      rw [HD.out]
      clear h1 h2
      go_enter Tryz.func35, Tryz.ntmps35
      go_wp2_with fail
      go_quiet (fail)
      go_wp2_with fail
      go_region_held3 (fun W => W.cell? ⟨b, 1, none⟩ = some (.pointer (some ⟨q, 0, none⟩)) ∧ W.cell? ⟨b, 2, none⟩ = some (.int .i64 ((n : Nat) : Int)))
        (first | (refine ⟨?_, ?_⟩ <;> (repeat (first | with_reducible assumption | with_reducible refine dr_blk ?_)); done) | go_keep)
        (first | (go_at_call 60; refine (then_any (mp_bl' HM.out (by repeat (first | exact bl_refl _ | refine bl_drew ?_ | refine bl_drewN ?_ _ | refine bl_alloc ?_ _))) (TW.out)).mono ?_; rintro e w1 ⟨rfl, hm_w1⟩; have hS_w1 := HS1.out _ _ hm_w1; obtain ⟨s0_w1, s1_w1⟩ := hS_w1) | fail)
      have HM_w1 := hide hm_w1
      clear hm_w1 s0_w1 s1_w1
      go_wp2
      go_ret
      exact ⟨rfl, HM_w1.out⟩
  · have d1 : decide (Y.mi ≤ ((n : Nat) : Int)) = false := decide_eq_false h1
    have HD := hide (show doM X.of X.takes (.ended Y G n bb) s.todo s = .go { s with todo := .again Y G (n + 1) :: s.todo } by show (if _ then _ else _) = _; rw [if_neg (fun hh => h1 hh.1)])
    rw [HD.out]
    clear h1
    go_enter Tryz.func35, Tryz.ntmps35
    go_wp2_with fail
    go_quiet (fail)
    go_wp2_with fail
    go_region_held3 (fun W => W.cell? ⟨b, 1, none⟩ = some (.pointer (some ⟨q, 0, none⟩)) ∧ W.cell? ⟨b, 2, none⟩ = some (.int .i64 ((n : Nat) : Int)))
      (first | (refine ⟨?_, ?_⟩ <;> (repeat (first | with_reducible assumption | with_reducible refine dr_blk ?_)); done) | go_keep)
      (first | (go_at_call 60; refine (then_any (mp_bl' HM.out (by repeat (first | exact bl_refl _ | refine bl_drew ?_ | refine bl_drewN ?_ _ | refine bl_alloc ?_ _))) (TW.out)).mono ?_; rintro e w1 ⟨rfl, hm_w1⟩; have hS_w1 := HS1.out _ _ hm_w1; obtain ⟨s0_w1, s1_w1⟩ := hS_w1) | fail)
    have HM_w1 := hide hm_w1
    clear hm_w1 s0_w1 s1_w1
    go_wp2
    go_ret
    exact ⟨rfl, HM_w1.out⟩
set_option maxHeartbeats 16000000 in
theorem do_shut {s : Ms} (hX : X.Ok) (h : MP X R S s w) {b q : Nat} {Y : Rt} {G bb : Nat} {n : Int} (hT : TaskAt X R S b 6 q n ((bb : Nat) : Int)) (hn : NdAt X.W q Y G) (hg : G < s.p.length) (hbb : bb ≤ s.i) (hi : s.i < X.ps.length) (hnp : X.np ≤ 1000) (hl : s.tr.length ≤ 50000000) :
    Calls Tryz.prog 35 #[.pointer (some ⟨X.m, 0, none⟩), .pointer (some ⟨b, 0, none⟩)] w (DsPost X R S (doM X.of X.takes (.shut G bb) s.todo s)) := by
  have HT := hide hT
  obtain ⟨kv, q2, hcs, -, -⟩ := nd_base hn
  have h9 : X.W.cell? ⟨q, 9, none⟩ = some (.int .i64 ((G : Nat) : Int)) := hcs 9 _ rfl
  have HS := hide (fun (s1 : Ms) (W : World) (h : MP X R S s1 W) (hi : s1.i = s.i) => (show W.cell? ⟨b, 1, none⟩ = some (.pointer (some ⟨q, 0, none⟩)) ∧ W.cell? ⟨b, 3, none⟩ = some (.int .i64 ((bb : Nat) : Int)) ∧ W.cell? ⟨q, 9, none⟩ = some (.int .i64 ((G : Nat) : Int)) ∧ W.cell? ⟨X.m, 5, none⟩ = some (.int .i64 ((s.i : Nat) : Int)) from ⟨(HT.out s1 W h).2.1, (HT.out s1 W h).2.2.2.1, cell_later (mp_bWQ h) h9, by rw [← hi]; exact (mp_get h).1⟩))
  obtain ⟨c0, c1, c2, c3, lt⟩ := hT s w h
  obtain ⟨t1, t3, t9, t5⟩ := HS.out s w h rfl
  have lq : q < w.heap.size := World.block_lt_of_cell? _ _ t9
  obtain ⟨m5, lm, -, -⟩ := mp_get h
  have HM := hide h
  have HST := hide (fun (W : World) (h : MP X R S s W) => stretch_m hX h bb s.i (by omega) hi)
  have HSET := hide (fun (W : World) (h : MP X R S s W) => set_any h G hg (X.of bb) (X.of s.i) hnp hl)
  have HD := hide (show doM X.of X.takes (.shut G bb) s.todo s = .go { s with todo := s.todo, p := (setM s.C s.p s.tr G (X.of bb, X.of s.i)).1, tr := (setM s.C s.p s.tr G (X.of bb, X.of s.i)).2 } from rfl)
  rw [HD.out]
  clear hT hcs h9 hn h hX hg hbb hi hnp hl m5
  go_enter Tryz.func35, Tryz.ntmps35
  go_wp2_with fail
  go_region_held3 (fun W => W.cell? ⟨b, 1, none⟩ = some (.pointer (some ⟨q, 0, none⟩)) ∧ W.cell? ⟨b, 3, none⟩ = some (.int .i64 ((bb : Nat) : Int)) ∧ W.cell? ⟨q, 9, none⟩ = some (.int .i64 ((G : Nat) : Int)) ∧ W.cell? ⟨X.m, 5, none⟩ = some (.int .i64 ((s.i : Nat) : Int)))
    (first | (refine ⟨?_, ?_, ?_, ?_⟩ <;> (repeat (first | with_reducible assumption | with_reducible refine dr_blk ?_)); done) | go_keep)
    (first
      | (go_at_call 45; refine (HST.out _ (mp_bl' HM.out (by repeat (first | exact bl_refl _ | refine bl_drew ?_ | refine bl_drewN ?_ _ | refine bl_alloc ?_ _)))).mono ?_; rintro e w1 ⟨rfl, hb1⟩; have hm1 := mp_bl' (mp_bl' HM.out (by repeat (first | exact bl_refl _ | refine bl_drew ?_ | refine bl_drewN ?_ _ | refine bl_alloc ?_ _))) hb1; obtain ⟨u1, u3, u9, u5⟩ := HS.out _ _ hm1 rfl)
      | (go_at_call 63; refine (HSET.out _ (by first | exact hm1 | exact mp_bl' hm1 (by repeat (first | exact bl_refl _ | refine bl_drew ?_ | refine bl_drewN ?_ _ | refine bl_alloc ?_ _)))).mono ?_; rintro e w2 ⟨rfl, hm2⟩; obtain ⟨v1, v3, v9, v5⟩ := HS.out _ _ hm2 rfl)
      | fail)
  have HM2 := hide hm2
  clear hm2 hm1 u1 u3 u9 u5 v1 v3 v9 v5
  go_wp2
  go_ret
  exact ⟨rfl, HM2.out⟩
end
end Go.Proofs.YtcnliipkfccohabGreat
end
section
namespace Go.Proofs.YtcnliipkfccohabGreat
open Go.ChangeShapes Go.WideShapes Go.ChangeAt Go.RowKit
open SetM SpanM
attribute [local go_sem ↓] Go.wp_at_zero Go.wp_at_succ
set_option maxRecDepth 100000
set_option linter.unusedVariables false
theorem plGo_in : ∀ (l : List UInt8) (k : Nat), (∀ x ∈ plGo l k, k ≤ x ∧ x ≤ k + l.length) ∧ (plGo l k).Pairwise (· ≤ ·) ∧ (plGo l k).length ≤ l.length + 1 ∧ 0 < (plGo l k).length
  | [], k => by
    refine ⟨fun x hx => ?_, ?_, ?_, ?_⟩
    · simp [plGo] at hx; subst hx; simp
    · simp [plGo]
    · simp [plGo]
    · simp [plGo]
  | c :: r, k => by
    obtain ⟨h1, h2, h3, h4⟩ := plGo_in r (k + 1)
    unfold plGo
    split
    · refine ⟨fun x hx => ?_, ?_, ?_, ?_⟩
      · rcases List.mem_cons.1 hx with rfl | hx
        · simp
        · have := h1 x hx; simp; omega
      · exact List.pairwise_cons.2 ⟨fun x hx => by have := h1 x hx; omega, h2⟩
      · simp; omega
      · simp
    · refine ⟨fun x hx => ?_, h2, ?_, h4⟩
      · have := h1 x hx; simp; omega
      · simp; omega
theorem plGo_up (l : List UInt8) (i : Nat) (h : i + 1 < (plGo l 0).length) : (plGo l 0)[i] ≤ (plGo l 0)[i + 1] :=
  List.pairwise_iff_getElem.1 (plGo_in l 0).2.1 i (i + 1) (by omega) h (by omega)
theorem plGo_top (l : List UInt8) (i : Nat) (h : i < (plGo l 0).length) : (plGo l 0)[i] ≤ l.length := by
  have := ((plGo_in l 0).1 _ (List.getElem_mem h)).2
  omega
theorem make_fn {P : Program} (t e : TypeId) (i : TypeInfo) (z : Value) (size : Nat) (ht : P.underlying t = some (.slice e)) (hi : P.info? e = some i) (hz : i.zero = some z) (hsize : i.size = size) (n : Nat) (hbytes : i.bytes * n ≤ 281474976710656) (h63 : n ≤ maxLen) :
    ∃ mk : World → World, ∀ W : World, (Instr.makeSlice t (.int .i64 (n : Int)) (.int .i64 (n : Int))).run P W = .ok (.slice (some ⟨W.heap.size, 0, none⟩) n n) (mk W) ∧
      (mk W).ownsRow 0 e size (.slice (some ⟨W.heap.size, 0, none⟩) n n) n (madeCells z.cells (n * size)).toList ∧ W.grownBy (mk W) none := by
  have h : ∀ W : World, ∃ w' : World, (Instr.makeSlice t (.int .i64 (n : Int)) (.int .i64 (n : Int))).run P W = .ok (.slice (some ⟨W.heap.size, 0, none⟩) n n) w' ∧
      w'.ownsRow 0 e size (.slice (some ⟨W.heap.size, 0, none⟩) n n) n (madeCells z.cells (n * size)).toList ∧ W.grownBy w' none := fun W => run_make_full (P := P) W 0 t e i z size ht hi hz hsize .i64 .i64 n hbytes h63 (Nat.zero_le _)
  exact ⟨fun W => (h W).choose, fun W => (h W).choose_spec⟩
theorem own_rebase {w : World} {e : TypeId} {size g n c b : Nat} {xs : List Value} (h : w.ownsRow 0 e size (.slice (some ⟨g, 0, none⟩) n c) n xs) (hb : b ≤ g) : w.ownsRow b e size (.slice (some ⟨g, 0, none⟩) n c) n xs := by
  refine ⟨h.1, ?_⟩
  rcases h.2 with ⟨h0, _⟩ | ⟨g', c', cur, hv, _, r⟩
  · cases h0
  · cases hv
    exact .inr ⟨g, c, cur, rfl, hb, r⟩
theorem made_flatS (n : Nat) : (madeCells #[Value.int .i64 0, Value.int .i64 0] (n * 2)).toList = flat (List.replicate n ((0 : Int), (0 : Int))) := by
  apply List.ext_getElem
  · rw [flat_len]; simp [madeCells]
  · intro i h1 h2
    have hi : i < n * 2 := by simpa [madeCells] using h1
    have hf := flat_at (List.replicate n ((0 : Int), (0 : Int))) (i / 2) (by simp; omega)
    have e1 : (madeCells #[Value.int .i64 0, Value.int .i64 0] (n * 2)).toList[i] = .int .i64 0 := by
      simp only [madeCells, Array.toList_map, Array.toList_range, List.getElem_map, List.getElem_range]
      rcases Nat.mod_two_eq_zero_or_one i with h | h <;> simp [h]
    rw [e1]
    simp only [List.getElem_replicate] at hf
    rcases Nat.mod_two_eq_zero_or_one i with h | h
    · have ht : i / 2 * 2 = i := by omega
      rw [ht, List.getElem?_eq_getElem h2] at hf
      exact (Option.some.inj hf.1).symm
    · have ht : i / 2 * 2 + 1 = i := by omega
      rw [ht, List.getElem?_eq_getElem h2] at hf
      exact (Option.some.inj hf.2).symm
def NwPost (t : Rt) (fold : Bool) (s : ByteArray) (fuel : Int) (w : World) (e : Ending) (w' : World) : Prop :=
  ∃ X : Mx, e = .returned (.pointer (some ⟨X.m, 0, none⟩)) ∧ X.s = s ∧ X.fold = fold ∧ X.ps = plGo s.data.toList 0 ∧ X.np = gM t ∧ NdAt X.W X.rb t 0 ∧ Below w.heap.size w w' ∧
    MR X w [] w' [] (List.replicate (gM t) (0, 0)) [] [] (.pointer none) (.slice none 0 0) (.slice none 0 0) [] ∧ Cm w' X.m (X.cs (min (max fuel 0) 20000).toNat 0 (.pointer none) (.slice none 0 0) (.slice none 0 0))
theorem newm_end {w w3 wf : World} {t : Rt} {fold : Bool} {s : ByteArray} {fuel : Int} {f : Nat} {nb plb pc pb : Nat} {ps : List Nat} {ty : TypeId} (hb3 : Below w.heap.size w w3) (hbf : Below w3.heap.size w3 wf) (hn : NdAt w3 nb t 0)
    (hf : (min (max fuel 0) 20000).toNat = f) (hps : plGo s.data.toList 0 = ps) (hpl : wf.ownsRow 0 3 1 (.slice (some ⟨plb, 0, none⟩) ps.length pc) ps.length (natC ps))
    (hpt : wf.ownsRow w3.heap.size 33 2 (.slice (some ⟨pb, 0, none⟩) (gM t) (gM t)) (gM t) (flat (List.replicate (gM t) (0, 0)))) (hne : plb ≠ pb) :
    NwPost t fold s fuel w (.returned (.pointer (some ⟨wf.heap.size, 0, none⟩))) (wf.alloc (.cells #[.string s, .slice (some ⟨plb, 0, none⟩) ps.length pc, .bool fold, .int .i64 ((f : Nat) : Int), .pointer (some ⟨nb, 0, none⟩), .int .i64 0, .pointer none, .slice (some ⟨pb, 0, none⟩) (gM t) (gM t), .slice none 0 0, .slice none 0 0] ty)) := by
  have hpb := World.ownsRow.lt hpt pb rfl
  have hplb := World.ownsRow.lt hpl plb rfl
  have hs3 := hb3.size
  have hsf := hbf.size
  have hba : Below wf.heap.size wf (wf.alloc (.cells #[.string s, .slice (some ⟨plb, 0, none⟩) ps.length pc, .bool fold, .int .i64 ((f : Nat) : Int), .pointer (some ⟨nb, 0, none⟩), .int .i64 0, .pointer none, .slice (some ⟨pb, 0, none⟩) (gM t) (gM t), .slice none 0 0, .slice none 0 0] ty)) := bl_alloc (bl_refl wf) _
  refine ⟨⟨w3, w3.heap.size, wf.heap.size, s, plb, pc, ps, fold, nb, pb, gM t, gM t⟩, rfl, rfl, rfl, hps.symm, rfl, hn, bl_trans (bl_trans hb3 hbf) hba, ?_, ?_⟩
  · exact {
      bW := bl_trans hbf hba
      chg := chg_of (bl_trans (bl_trans hb3 hbf) hba) []
      hB := Nat.le_refl _
      hm := hsf
      ml := by simp
      im := .inr (by show w.heap.size ≤ wf.heap.size; omega)
      ip := .inr (by show w.heap.size ≤ pb; omega)
      it := fun k hk => by cases hk
      ic := fun k hk => by cases hk
      mp := by show wf.heap.size ≠ pb; omega
      mt := by simp [Value.ownBlock]
      mc := by simp [Value.ownBlock]
      pt := by simp [Value.ownBlock]
      pc := by simp [Value.ownBlock]
      tc := fun k hk => by cases hk
      pl := own_below hpl hba
      plF := fun hF => by
        rcases hF with h | h | h | h
        · have h : plb = wf.heap.size := h
          omega
        · exact hne h
        · cases h
        · cases h
      hp := by simp
      parts := own_below hpt hba
      trail := ⟨by simp [flatT], .inl ⟨rfl, rfl⟩⟩
      chs := ⟨by simp [flatC], .inl ⟨rfl, rfl⟩⟩
      todo := .nil
      cs := trivial }
  · rw [hf]
    exact cm_new _ ty rfl
theorem newm_end2 {w w3 wf : World} {t : Rt} {fold : Bool} {s : ByteArray} {fuel : Int} {f G : Nat} {nb pc pb : Nat} {pA : Option Addr} {ps : List Nat} {ty : TypeId} (hb3 : Below w.heap.size w w3) (hbf : Below w3.heap.size w3 wf) (hn : NdAt w3 nb t 0)
    (hf : (min (max fuel 0) 20000).toNat = f) (hG : gM t = G) (hps : plGo s.data.toList 0 = ps) (hpl : wf.ownsRow 0 3 1 (.slice pA ps.length pc) ps.length (natC ps))
    (hpt : wf.ownsRow w3.heap.size 33 2 (.slice (some ⟨pb, 0, none⟩) G G) G (madeCells (Value.agg #[.int .i64 0, .int .i64 0]).cells (G * 2)).toList) (hne : ∀ k, (Value.slice pA ps.length pc).ownBlock = some k → k ≠ pb) :
    NwPost t fold s fuel w (.returned (.pointer (some ⟨wf.heap.size, 0, none⟩))) (wf.alloc (.cells #[.string s, .slice pA ps.length pc, .bool fold, .int .i64 ((f : Nat) : Int), .pointer (some ⟨nb, 0, none⟩), .int .i64 0, .pointer none, .slice (some ⟨pb, 0, none⟩) G G, .slice none 0 0, .slice none 0 0] ty)) := by
  have hp := (plGo_in s.data.toList 0).2.2.2
  rw [hps] at hp
  have e2 : (madeCells (Value.agg #[Value.int .i64 0, Value.int .i64 0]).cells (G * 2)).toList = flat (List.replicate G ((0 : Int), (0 : Int))) := made_flatS G
  rw [e2] at hpt
  rcases own_form hpl with ⟨hv, h1, _⟩ | ⟨plb, c, hv, _⟩
  · omega
  · injection hv with hA _ hc
    subst hA hc hG
    exact newm_end hb3 hbf hn hf hps hpl hpt (hne plb rfl)
set_option maxHeartbeats 16000000 in
theorem newMachine_any {w : World} {t : Rt} (h : RxAt w t) (hsz : sM t ≤ 1000) (fold : Bool) (s : ByteArray) (fuel : Int) (hs : s.size ≤ 999) :
    Calls Tryz.prog 32 #[t.v, .bool fold, .string s, .int .i64 fuel] w (NwPost t fold s fuel w) := by
  obtain ⟨i0, hi0, hz0', hz1, hz2⟩ := info_parts info_sp
  obtain ⟨tA, tc, hkv⟩ := ksat_len h.ks
  obtain ⟨rA, rc, hrv⟩ := rwat_len h.rows
  have hv : t.v = .agg #[.int .i64 t.k, .string t.ch, .bool t.nt, .slice rA t.rows.length rc, .int .i64 t.mi, .int .i64 t.ma, .bool t.lz, .slice tA t.kids.length tc] := by unfold Rt.v Rt.cs; rw [hkv, hrv]
  have hgm : gM t ≤ 1000 := by have h1 := gM_le t; have h2 := pM_sM t; omega
  have HN := hide (fun b W hb hbb hc hf => rxnumber_any h (by omega) 0 (by omega) b W hb hbb hc hf)
  rw [hv] at HN ⊢
  unfold NbPost at HN
  obtain ⟨G, hG⟩ : ∃ g, gM t = g := ⟨_, rfl⟩
  have HPL := hide (fun W => places_any s W (by omega))
  unfold PlPost at HPL
  obtain ⟨f, hf⟩ : ∃ f, (min (max fuel 0) 20000).toNat = f := ⟨_, rfl⟩
  have hff : min (max fuel 0) 20000 = ((f : Nat) : Int) := by omega
  have HF := hide hf
  have HG := hide hG
  rw [hG] at HN
  have hG1 : G ≤ 1000 := by omega
  clear h hkv hrv hv hsz hf hG hgm
  go_enter Tryz.func32, Tryz.ntmps32
  go_wp2_with fail
  refine (HN.out (w.heap.size + 1) _ (bl_alloc (bl_alloc (bl_refl w) _) _) (Nat.le_succ _) (by go_simp) (by go_simp)).mono ?_
  rintro e w3 ⟨nb, rfl, hcn, hnd⟩
  have HB3 := hide (hcn.below (bl_alloc (bl_alloc (bl_refl w) _) _) (Nat.le_succ _))
  have HND := hide (ndp_done hnd HB3.out)
  have zB : w3.cell? ⟨w.heap.size + 1, 0, none⟩ = some (.int .i64 ((G : Nat) : Int)) := by have := hcn.pos; simpa using this
  have lB : w.heap.size + 1 < w3.heap.size := World.block_lt_of_cell? _ _ zB
  obtain ⟨B, hB⟩ : ∃ b, w.heap.size + 1 = b := ⟨_, rfl⟩
  rw [hB] at zB lB ⊢
  clear hcn hnd HN hB
  go_wp2_with fail
  obtain ⟨mk, hmk⟩ := make_fn (P := Tryz.prog) 34 33 i0 (.agg #[.int .i64 0, .int .i64 0]) 2 Tryz.underlying34 hi0 hz0' hz1 G (by rw [hz2]; omega) (by unfold maxLen; omega)
  have hmk1 : ∀ W : World, (Instr.makeSlice 34 (.int .i64 ((G : Nat) : Int)) (.int .i64 ((G : Nat) : Int))).run Tryz.prog W = .ok (.slice (some ⟨W.heap.size, 0, none⟩) G G) (mk W) := fun W => (hmk W).1
  have HMK := hide (fun W => (hmk W).2)
  have HMB := hide (fun (W : World) (j : Nat) (u : Value) (h : W.cell? ⟨B, j, none⟩ = some u) => (show (mk W).cell? ⟨B, j, none⟩ = some u from cell_gr (HMK.out W).2 (by simp) h))
  have HMG := hide (fun (W : World) => (show Below W.heap.size W (mk W) from bl_grown (bl_refl W) (HMK.out W).2 (fun k hk => by cases hk)))
  clear hmk
  go_region_held3 (fun W => W.cell? ⟨B, 0, none⟩ = some (.int .i64 ((G : Nat) : Int)))
    (repeat (first | with_reducible assumption | with_reducible refine dr_blk ?_ | with_reducible refine al_blk ?_ | with_reducible refine HMB.out _ _ _ ?_))
    (first | (go_at_call 56; refine (HPL.out _).mono ?_; rintro e w4 ⟨v4, ps, rfl, hb4, ho4, hps⟩; obtain ⟨pA, pc, rfl⟩ := own_slice ho4; refine (show w4.cell? ⟨B, 0, none⟩ = some (.int .i64 ((G : Nat) : Int)) → _ from fun z4 => ?_) (cell_later hb4 ?_); rotate_left; focus (repeat (first | with_reducible assumption | with_reducible refine dr_blk ?_ | with_reducible refine HMB.out _ _ _ ?_))) | fail)
  all_goals
    have HO := hide ho4
    have HB4 := hide hb4
    have HPS := hide hps.out
    clear z4 hps ho4 hb4 zB lB
    go_wp2
    go_ret
    first
      | exact newm_end2 HB3.out (bl_trans (bl_trans (bl_drew (bl_refl w3)) (HMG.out w3.drew)) HB4.out) HND.out HF.out HG.out HPS.out (own_base HO.out (Nat.zero_le _)) (own_below (own_rebase (HMK.out w3.drew).1 (Nat.le_refl w3.heap.size)) HB4.out) (fun k hk e => by have h1 := (World.ownsRow.lt HO.out k hk).1; have h2 := (World.ownsRow.lt (HMK.out w3.drew).1 w3.drew.heap.size rfl).2; have h3 : w3.drew.heap.size = w3.heap.size := rfl; omega)
      | exact newm_end2 HB3.out (bl_trans (bl_trans (bl_drew (bl_refl w3)) HB4.out) (HMG.out _)) HND.out HF.out HG.out HPS.out (own_below (own_base HO.out (Nat.zero_le _)) (HMG.out _)) (own_rebase (HMK.out _).1 (by have := HB4.out.size; have h3 : w3.drew.heap.size = w3.heap.size := rfl; omega)) (fun k hk e => by have h1 := (World.ownsRow.lt HO.out k hk).2; omega)
end Go.Proofs.YtcnliipkfccohabGreat
end
section
namespace Go.Proofs.YtcnliipkfccohabGreat
open Go.ChangeShapes Go.WideShapes Go.ChangeAt Go.RowKit
open SetM SpanM
attribute [local go_sem ↓] Go.wp_at_zero Go.wp_at_succ
set_option maxRecDepth 100000
set_option linter.unusedVariables false
section
variable {X : Mx} {R : World} {S S' : List Nat} {w w' w1 : World} {T : List Tk} {p : List (Int × Int)} {tr : List (Nat × (Int × Int))} {C : List Ch} {rv tv cv : Value} {L : List (Value × Nat × Nat)}
def Mx.bl (X : Mx) (tv cv : Value) : List Nat := X.m :: X.pb :: (tv.ownBlock.toList ++ cv.ownBlock.toList)
theorem memL {k : Nat} : k ∈ X.bl tv cv ↔ X.F tv cv k := by
  unfold Mx.bl Mx.F
  simp
theorem mr_base (h : MR X R S w T p tr C rv tv cv L) : MR X w (X.bl tv cv) w T p tr C rv tv cv L :=
  { h with
    chg := chg_refl w _
    im := .inl (memL.2 (.inl rfl))
    ip := .inl (memL.2 (.inr (.inl rfl)))
    it := fun k hk => .inl (memL.2 (.inr (.inr (.inl hk))))
    ic := fun k hk => .inl (memL.2 (.inr (.inr (.inr hk)))) }
theorem mr_in (h : MR X R S w T p tr C rv tv cv L) : ∀ k ∈ X.bl tv cv, InS R S k := fun k hk => by
  rcases memL.1 hk with h1 | h1 | h1 | h1
  · rw [h1]; exact h.im
  · rw [h1]; exact h.ip
  · exact h.it k h1
  · exact h.ic k h1
theorem mp_unbase {s : Ms} (h : MP X w S' s w1) (hc : Chg R w S) (hS : ∀ k ∈ S', InS R S k) : MP X R S s w1 := by
  obtain ⟨rv, tv, cv, L, hr, hm⟩ := h
  have hI : ∀ k, InS w S' k → InS R S k := fun k hk => by
    rcases hk with h1 | h1
    · exact hS k h1
    · exact .inr (Nat.le_trans hc.size h1)
  exact ⟨rv, tv, cv, L, { hr with
    chg := ⟨hr.chg.os.trans hc.os, hr.chg.tape.trans hc.tape, hr.chg.output.trans hc.output, Nat.le_trans hc.size hr.chg.size, fun k hk hn => (hr.chg.block k (Nat.lt_of_lt_of_le hk hc.size) (fun hm => by
      rcases hS k hm with h1 | h1
      · exact hn h1
      · omega)).trans (hc.block k hk hn)⟩
    im := hI _ hr.im
    ip := hI _ hr.ip
    it := fun k hk => hI k (hr.it k hk)
    ic := fun k hk => hI k (hr.ic k hk) }, hm⟩
theorem task_at {b : Nat} {wh : Int} {q : Nat} {n fr : Int} {rest : Value} (hb : b ∉ S') (hc : ∀ j u, ([.int .i64 wh, .pointer (some ⟨q, 0, none⟩), .int .i64 n, .int .i64 fr, rest] : List Value)[j]? = some u → w.cell? ⟨b, j, none⟩ = some u) : TaskAt X w S' b wh q n fr := fun s W h => by
  obtain ⟨_, _, _, _, hr, _⟩ := h
  have hlt : b < w.heap.size := World.block_lt_of_cell? _ _ (hc 0 _ rfl)
  have e := hr.chg.block b hlt hb
  exact ⟨by rw [World.cell?_of_block e]; exact hc 0 _ rfl, by rw [World.cell?_of_block e]; exact hc 1 _ rfl, by rw [World.cell?_of_block e]; exact hc 2 _ rfl, by rw [World.cell?_of_block e]; exact hc 3 _ rfl, Nat.lt_of_lt_of_le hlt hr.chg.size⟩
theorem do_any {s : Ms} (hX : X.Ok) (h : MP X R S s w) {t : Tk} {b : Nat} {wh : Int} {q : Nat} {n fr : Int} (hT : TaskAt X R S b wh q n fr) (ht : TwAt X.W t wh q n fr) (hok : MsOk X.np (X.ps.length - 1) ⟨t :: s.todo, s.i, s.p, s.tr, s.C, s.f⟩) (hnp : X.np ≤ 512) :
    Calls Tryz.prog 35 #[.pointer (some ⟨X.m, 0, none⟩), .pointer (some ⟨b, 0, none⟩)] w (DsPost X R S (doM X.of X.takes t s.todo s)) := by
  have hk := hok.hT t List.mem_cons_self
  have hi : s.i ≤ X.ps.length - 1 := hok.hi
  have hp0 := hX.pos
  have hf : s.f ≤ 20000 := hok.hf
  have hpot : s.C.length + s.tr.length + potS (t :: s.todo) + crd X.np (t :: s.todo) + 2050 * s.f ≤ 41002050 := hok.hpot
  have hpl : s.p.length = X.np := hok.hp
  have hln := hX.len
  cases ht with
  | enter q x g n fr hn => exact do_enter hX h hT hn hk (by omega) hf
  | kids q Y G n fr hn h1 h2 => exact do_kids h hT hn h1 h2
  | others q Y G n fr hn h1 h2 => exact do_others h hT hn h1 h2 (by omega)
  | again q x g n fr hn =>
    obtain ⟨hx, h7, h3, h4⟩ := hk
    exact do_again h hT hn (hx.rep h7).1 h4 (by omega)
  | begin q x g n fr hn =>
    obtain ⟨hx, h7, h3, h4⟩ := hk
    obtain ⟨_, _, _, y, hy, _⟩ := hx.rep h7
    exact do_begin h hT hn h7 hy hx.gr (by omega) hpl ⟨fun e he => by rw [hpl]; exact hok.htr e he, by omega⟩
  | ended q x g n b hn =>
    obtain ⟨hx, h7, h3, h4, h5⟩ := hk
    obtain ⟨r1, r2, -, -⟩ := hx.rep h7
    have h3' : b ≤ s.i := h3
    exact do_ended h hT hn (by omega)
  | shut q x g b n hn =>
    obtain ⟨h1, h2⟩ := hk
    exact do_shut hX h hT hn (by omega) h2 (by omega) (by omega) (by omega)
theorem least (P : Nat → Prop) : ∀ n, P n → ∃ k, P k ∧ ∀ m, P m → k ≤ m := by
  intro n
  induction n using Nat.strongRecOn with
  | _ n ih =>
    intro hn
    by_cases h : ∃ m, m < n ∧ P m
    · obtain ⟨m, h1, h2⟩ := h
      exact ih m h1 h2
    · exact ⟨n, hn, fun m hm => by
        by_cases h2 : n ≤ m
        · exact h2
        · exact absurd ⟨m, by omega, hm⟩ h⟩
theorem least_fn (P : Nat → World → Prop) : ∃ f : World → Nat, ∀ w, (∃ n, P n w) → P (f w) w ∧ ∀ n, P n w → f w ≤ n := by
  have h : ∀ w, ∃ k, (∃ n, P n w) → P k w ∧ ∀ n, P n w → k ≤ n := fun w => by
    by_cases hw : ∃ n, P n w
    · obtain ⟨n, hn⟩ := hw
      obtain ⟨k, h1, h2⟩ := least (fun n => P n w) n hn
      exact ⟨k, fun _ => ⟨h1, h2⟩⟩
    · exact ⟨0, fun h => absurd h hw⟩
  exact ⟨fun w => (h w).choose, fun w => (h w).choose_spec⟩
theorem own_none {A : Option Addr} {base n c size : Nat} {e : TypeId} {xs : List Value} (h : w.ownsRow base e size (.slice A n c) n xs) : w.ownsRow base e size (.slice A 0 c) 0 [] := by
  rcases own_form h with ⟨hv, h1, h2⟩ | ⟨g, c', hv, _⟩
  · injection hv with hA hn hc
    subst hA hc
    exact ⟨by simp, .inl ⟨rfl, rfl⟩⟩
  · injection hv with hA hn hc
    subst hA hc
    have := front_cv (m := 0) h (Nat.zero_le _)
    simpa using this
theorem MR.none {A A2 : Option Addr} {tc cc : Nat} (h : MR X R S w T p tr C rv (.slice A tr.length tc) (.slice A2 L.length cc) L) : MR X R S w T p [] [] rv (.slice A 0 tc) (.slice A2 0 cc) [] := by
  have b1 : (Value.slice A 0 tc).ownBlock = (Value.slice A tr.length tc).ownBlock := by cases A <;> rfl
  have b2 : (Value.slice A2 0 cc).ownBlock = (Value.slice A2 L.length cc).ownBlock := by cases A2 <;> rfl
  have hF : ∀ j, X.F (.slice A 0 tc) (.slice A2 0 cc) j → X.F (.slice A tr.length tc) (.slice A2 L.length cc) j := fun j hj => by
    unfold Mx.F at hj ⊢
    rw [b1, b2] at hj
    exact hj
  exact { h with
    it := fun j hj => h.it j (by rw [← b1]; exact hj)
    ic := fun j hj => h.ic j (by rw [← b2]; exact hj)
    mt := by rw [b1]; exact h.mt
    mc := by rw [b2]; exact h.mc
    pt := by rw [b1]; exact h.pt
    pc := by rw [b2]; exact h.pc
    tc := fun j hj => by rw [b2]; exact h.tc j (by rw [← b1]; exact hj)
    plF := fun hj => h.plF (hF _ hj)
    trail := own_none h.trail
    chs := own_none h.chs
    todo := tk_step h.todo (grown_refl w Option.none) (fun k hk => by cases hk) (fun k hk => .inl (hF k hk))
    cs := trivial }
theorem fill_set {α : Type} (v : α) (l : List α) (k : Nat) (h : k < l.length) : (List.replicate k v ++ l.drop k).set k v = List.replicate (k + 1) v ++ l.drop (k + 1) := by
  rw [List.set_append_right _ _ (by simp)]
  simp only [List.length_replicate, Nat.sub_self]
  rw [List.drop_eq_getElem_cons h, List.set_cons_zero, List.replicate_succ', List.append_assoc]
  rfl
theorem doM_todo (offs : Nat → Int) (takes : Rt → Nat → Option Nat) (t : Tk) (T A B : List Tk) (i : Nat) (p : List (Int × Int)) (tr : List (Nat × (Int × Int))) (C : List Ch) (f : Nat) : doM offs takes t T ⟨A, i, p, tr, C, f⟩ = doM offs takes t T ⟨B, i, p, tr, C, f⟩ := by
  cases t with
  | kids l g =>
    match l with
    | [] => rfl
    | [x] => rfl
    | x :: y :: l => rfl
  | others l g =>
    match l with
    | [] => rfl
    | [x] => rfl
    | x :: y :: l => rfl
  | _ => rfl
def RlPost (X : Mx) (R : World) (S : List Nat) (r : Ro) (e : Ending) (w' : World) : Prop := match r with
  | .found i p f => e = .returned (.int .i64 0) ∧ ∃ s, MP X R S s w' ∧ s.i = i ∧ s.p = p ∧ s.f = f ∧ i + 1 ≤ X.ps.length
  | .fail f => e = .returned (.int .i64 1) ∧ ∃ s, MP X R S s w' ∧ s.f = f
  | .dry => e = .returned (.int .i64 2) ∧ ∃ s, MP X R S s w'
def RunInv (X : Mx) (R : World) (S : List Nat) (r : Ro) (n : Nat) (w : World) : Prop := ∃ s, MP X R S s w ∧ MsOk X.np (X.ps.length - 1) s ∧ RunsN X.of X.takes n s r
set_option maxHeartbeats 16000000 in
theorem run_any {s0 : Ms} (hX : X.Ok) (h : MP X R S s0 w) {x : Rt} (hn : NdAt X.W X.rb x 0) (ho : XOk X.np x 0) (hnp : X.np ≤ 512) (i0 : Nat) (hi : i0 + 1 ≤ X.ps.length) (hf : s0.f ≤ 20000) (r : Ro) (hr : On X.of X.takes s0.f [.hold x 0] i0 (List.replicate X.np (-1, -1)) r) :
    Calls Tryz.prog 20 #[.pointer (some ⟨X.m, 0, none⟩), .int .i64 ((i0 : Nat) : Int)] w (RlPost X R S r) := by
  obtain ⟨nn, hrun⟩ := run_on X.of X.takes hr
  have HRUN := hide hrun
  have HOK := hide (start_ok (np := X.np) (N := X.ps.length - 1) (x := x) (i := i0) (p := List.replicate X.np (-1, -1)) (f := s0.f) hnp ho (by simp) (by omega) hf)
  have HTW := hide (TwAt.enter X.rb x 0 0 0 hn)
  have HX := hide hX
  have HNP := hide hnp
  obtain ⟨rv, tv, cv, L, hm, hc⟩ := h
  obtain ⟨tA, tc, rfl⟩ := own_slice hm.trail
  obtain ⟨cA, cc, rfl⟩ := own_slice hm.chs
  obtain ⟨f, hff⟩ : ∃ f, s0.f = f := ⟨_, rfl⟩
  rw [hff] at HRUN HOK hc
  have y4 : w.cell? ⟨X.m, 4, none⟩ = some (.pointer (some ⟨X.rb, 0, none⟩)) := hc.c 4 _ rfl
  have y5 : w.cell? ⟨X.m, 5, none⟩ = some (.int .i64 ((s0.i : Nat) : Int)) := hc.c 5 _ rfl
  obtain ⟨a6, rfl⟩ := tk_ptr hm.todo
  have y6 : w.cell? ⟨X.m, 6, none⟩ = some (.pointer a6) := hc.c 6 _ rfl
  have y8 : w.cell? ⟨X.m, 8, none⟩ = some (.slice tA s0.tr.length tc) := hc.c 8 _ rfl
  have y9 : w.cell? ⟨X.m, 9, none⟩ = some (.slice cA L.length cc) := hc.c 9 _ rfl
  have f5 := hc.f 5
  have f6 := hc.f 6
  have f8 := hc.f 8
  have f9 := hc.f 9
  have lt1 := hc.s
  obtain ⟨i1, hi1, _, _, _⟩ := info_parts info_old
  obtain ⟨i2, hi2, _, _, _⟩ := info_parts info_ch
  have hs8 := fun (W : World) => run_slice_to (P := Tryz.prog) 72 113 i1 Tryz.underlying72 hi1 tA s0.tr.length tc 0 0 rfl (Nat.zero_le _) W
  have hs9 := fun (W : World) => run_slice_to (P := Tryz.prog) 73 111 i2 Tryz.underlying73 hi2 cA L.length cc 0 0 rfl (Nat.zero_le _) W
  have HM := hide hm
  have HC := hide hc
  clear hm hc hr hrun hf hn ho hX hnp hff hi1 hi2
  go_enter Tryz.func20, Tryz.ntmps20
  go_wp2_with fail
  obtain ⟨W1, hW1⟩ : ∃ W, ((w.setCell ⟨X.m, 5, none⟩ (.int .i64 ((i0 : Nat) : Int))).setCell ⟨X.m, 6, none⟩ (.pointer (some ⟨w.heap.size, 0, none⟩))).alloc (.cells #[.int .i64 0, .pointer (some ⟨X.rb, 0, none⟩), .int .i64 0, .int .i64 0, .pointer none] 85) = W := ⟨_, rfl⟩
  rw [hW1]
  have HM1 := hide (show MR X R S W1 [.enter x 0] s0.p s0.tr s0.C (.pointer (some ⟨w.heap.size, 0, none⟩)) (.slice tA s0.tr.length tc) (.slice cA L.length cc) L by
    rw [← hW1]
    have h2 := ((HM.out.set 5 (.int .i64 ((i0 : Nat) : Int))).set 6 (.pointer (some ⟨w.heap.size, 0, none⟩))).re (T' := []) (rv' := .pointer none) .nil
    have ht2 := mp_task h2 HTW.out 85
    rw [set_alloc_size, set_alloc_size] at ht2
    exact (h2.bl (bl_alloc (bl_refl _) _)).re ht2)
  have HC1 := hide (show Cm W1 X.m (X.cs f i0 (.pointer (some ⟨w.heap.size, 0, none⟩)) (.slice tA s0.tr.length tc) (.slice cA L.length cc)) by
    rw [← hW1]
    exact ((HC.out.put 5 _).put 6 _).bl (bl_alloc (bl_refl _) _))
  clear hW1 y4 y5 y6 y8 y9 f5 f6 f8 f9 lt1
  have y8 : W1.cell? ⟨X.m, 8, none⟩ = some (.slice tA s0.tr.length tc) := HC1.out.c 8 _ rfl
  have y9 : W1.cell? ⟨X.m, 9, none⟩ = some (.slice cA L.length cc) := HC1.out.c 9 _ rfl
  have f8 := HC1.out.f 8
  have f9 := HC1.out.f 9
  have lt1 := HC1.out.s
  go_region
  obtain ⟨W2, hW2⟩ : ∃ W, ((W1.setCell ⟨X.m, 8, none⟩ (.slice tA 0 tc)).setCell ⟨X.m, 9, none⟩ (.slice cA 0 cc)).drew = W := ⟨_, rfl⟩
  rw [hW2]
  have HM2 := hide (show MR X R S W2 [.enter x 0] s0.p [] [] (.pointer (some ⟨w.heap.size, 0, none⟩)) (.slice tA 0 tc) (.slice cA 0 cc) [] by
    rw [← hW2]
    exact ((HM1.out.none.set 8 _).set 9 _).bl (bl_drew (bl_refl _)))
  have HC2 := hide (show Cm W2 X.m (X.cs f i0 (.pointer (some ⟨w.heap.size, 0, none⟩)) (.slice tA 0 tc) (.slice cA 0 cc)) by
    rw [← hW2]
    exact ((HC1.out.put 8 _).put 9 _).bl (bl_drew (bl_refl _)))
  clear hW2 y8 y9 f8 f9 lt1 hs8 hs9 HM1 HC1 HM HC
  have HPL := hide (show s0.p.length = X.np from HM2.out.hp)
  have y7 : W2.cell? ⟨X.m, 7, none⟩ = some (.slice (some ⟨X.pb, 0, none⟩) X.np X.qc) := HC2.out.c 7 _ rfl
  have lt1 := HC2.out.s
  have hnb : X.np ≤ 512 := HNP.out
  go_wp2_with fail
  go_loopw [42] (fun v wr => ∃ k : Nat, v = .int .i64 ((k : Nat) : Int) ∧ k ≤ X.np ∧ Hid (MR X R S wr [.enter x 0] (List.replicate k (-1, -1) ++ s0.p.drop k) [] [] (.pointer (some ⟨w.heap.size, 0, none⟩)) (.slice tA 0 tc) (.slice cA 0 cc) []) ∧ Hid (Cm wr X.m (X.cs f i0 (.pointer (some ⟨w.heap.size, 0, none⟩)) (.slice tA 0 tc) (.slice cA 0 cc)))) (fun v _ => X.np - (intOf v).toNat)
  case atStart => exact ⟨0, rfl, Nat.zero_le _, by simpa using HM2, HC2⟩
  case round =>
    obtain ⟨k, rfl, hk, HMR, HCR⟩ := hrel
    clear y7 lt1 HM2 HC2
    by_cases hlt : k < X.np
    · have y7 : wr.cell? ⟨X.m, 7, none⟩ = some (.slice (some ⟨X.pb, 0, none⟩) X.np X.qc) := HCR.out.c 7 _ rfl
      have lt1 : X.m < wr.heap.size := HCR.out.s
      have lt2 := HMR.out.plt.2
      have hpm : X.pb ≠ X.m := fun e => HMR.out.mp e.symm
      have hlk : k < (List.replicate k ((-1 : Int), (-1 : Int)) ++ s0.p.drop k).length := by rw [List.length_append, List.length_replicate, List.length_drop, HPL.out]; omega
      obtain ⟨v0, q0⟩ : ∃ v, wr.cell? ⟨X.pb, k * 2, none⟩ = some (.int .i64 v) := ⟨_, (parts_at HMR.out k hlk).1⟩
      obtain ⟨v1, q1⟩ : ∃ v, wr.cell? ⟨X.pb, k * 2 + 1, none⟩ = some (.int .i64 v) := ⟨_, (parts_at HMR.out k hlk).2⟩
      have ff0 : wr.frozen? ⟨X.pb, k * 2, none⟩ = false := World.ownsRow.frozenAt HMR.out.parts _
      have ff1 : wr.frozen? ⟨X.pb, k * 2 + 1, none⟩ = false := World.ownsRow.frozenAt HMR.out.parts _
      have i1 : (0 : Int) ≤ (k : Int) := by omega
      have i2 : (k : Int) < (X.np : Int) := by omega
      have d1 : decide ((k : Int) < (X.np : Int)) = true := decide_eq_true i2
      have d1' : decide (k < X.np) = true := decide_eq_true hlt
      have e5 : IntKind.i64.wrap ((k : Int) + 1) = (k : Int) + 1 := by rw [IntKind.wrap_i64]; omega
      have HFS := hide (fill_set ((-1 : Int), (-1 : Int)) s0.p k (by rw [HPL.out]; exact hlt))
      have HEND := hide (fun (W : World) (hb : Below wr.heap.size wr W) => And.intro ((HMR.out.bl hb).part k hlk (-1, -1)) (((HCR.out.bl hb).gr (gr_set W X.pb (k * 2) (.int .i64 (-1))) (by intro e; injection e with e; exact hpm e)).gr (gr_set _ X.pb (k * 2 + 1) (.int .i64 (-1))) (by intro e; injection e with e; exact hpm e)))
      have HPM := hide (fun (W : World) (hb : Below wr.heap.size wr W) => And.intro (show W.frozen? ⟨X.pb, k * 2, none⟩ = false from World.ownsRow.frozenAt (HMR.out.bl hb).parts _) (show W.frozen? ⟨X.pb, k * 2 + 1, none⟩ = false from World.ownsRow.frozenAt (HMR.out.bl hb).parts _))
      have HK1 := hide (show k + 1 ≤ X.np by omega)
      clear hlk hk hlt HMR HCR
      go_wp2_with fail
      go_region_held3 (fun W => W.cell? ⟨X.m, 7, none⟩ = some (.slice (some ⟨X.pb, 0, none⟩) X.np X.qc) ∧ True)
        (first | (refine ⟨?_, trivial⟩; (repeat (first | with_reducible assumption | with_reducible refine dr_blk ?_)); done) | go_keep)
        (first | (go_at_call 34; refine (unset_any _).mono ?_; rintro e w5 ⟨rfl, hb5⟩; have hbb := bl_trans (bl_drew (bl_refl wr)) hb5; have z7 := cell_later hbb y7; have z0 := cell_later hbb q0; have z1 := cell_later hbb q1; have l5 := Nat.lt_of_lt_of_le lt1 hbb.size; have l6 := Nat.lt_of_lt_of_le lt2 hbb.size; obtain ⟨g0, g1⟩ := HPM.out _ hbb) | fail)
      obtain ⟨e1, e2⟩ := HEND.out _ hbb
      rw [HFS.out] at e1
      have E1 := hide e1
      have E2 := hide e2
      clear e1 e2 HEND HFS HPM hb5 hbb z7 z0 z1 l5 l6 g0 g1
      go_wp2
      refine ⟨?_, by first | (simp [intOf]; done) | (simp [intOf]; omega)⟩
      first
        | exact ⟨k + 1, by go_num, HK1.out, E1, E2⟩
        | ((repeat apply Exists.intro); exact ⟨⟨k + 1, by go_num, HK1.out, E1, E2⟩, rfl⟩)
    · obtain rfl : k = X.np := by omega
      have d1 : decide ((X.np : Int) < (X.np : Int)) = false := by simp
      have d1' : decide (X.np < X.np) = false := by simp
      have e1 : List.replicate X.np ((-1 : Int), (-1 : Int)) ++ s0.p.drop X.np = List.replicate X.np (-1, -1) := by rw [List.drop_eq_nil_of_le (by rw [HPL.out]; exact Nat.le_refl _), List.append_nil]
      rw [e1] at HMR
      have HSTART := hide (show RunInv X R S r nn wr from ⟨⟨[.enter x 0], i0, List.replicate X.np (-1, -1), [], [], f⟩, ⟨_, _, _, _, HMR.out, HCR.out⟩, HOK.out, HRUN.out⟩)
      obtain ⟨F, hF⟩ := least_fn (RunInv X R S r)
      have HF := hide hF
      clear HMR HCR e1 hF HRUN HOK HTW HPL hlt hk
      go_wp2_with fail
      go_loopw [7] (fun _ wr => ∃ n, RunInv X R S r n wr) (fun _ wr => F wr)
      case atStart => exact ⟨_, HSTART.out⟩
      case round =>
        obtain ⟨hinv, hleast⟩ := HF.out wr hrel
        obtain ⟨n, hnn⟩ : ∃ n, F wr = n := ⟨_, rfl⟩
        rw [hnn] at hinv
        obtain ⟨s, hMP, hOK, hRN⟩ := hinv
        have HNN := hide hnn
        clear hleast hrel hnn HSTART d1 d1'
        obtain ⟨rv, tv, cv, LL, hmr, hcm⟩ := hMP
        obtain ⟨T, i, p, tr, C, f'⟩ := s
        have htd := hmr.todo
        have f6 := hcm.f 6
        have lt1 := hcm.s
        have y6 : wr.cell? ⟨X.m, 6, none⟩ = some rv := hcm.c 6 _ rfl
        cases htd with
        | nil =>
          have hres := runsN_nil X.of X.takes hRN
          have hpos := HX.out.pos
          have HRES := hide (show RlPost X R S r (.returned (.int .i64 0)) wr by
            rw [hres]
            exact ⟨rfl, _, ⟨_, _, _, _, hmr, hcm⟩, rfl, rfl, rfl, by have h9 : i ≤ X.ps.length - 1 := hOK.hi; omega⟩)
          clear hmr hcm hres hRN hOK hpos
          go_wp2_with fail
          go_ret
          exact HRES.out
        | cons b t T rv' wh q n2 fr hFb hcb htw htl =>
          obtain ⟨a4, rfl⟩ := tk_ptr htl
          have hbS : b ∉ X.bl tv cv := fun hm => hFb (memL.1 hm)
          have hbm : b ≠ X.m := fun e => hFb (.inl e)
          have hmb : X.m ≠ b := fun e => hbm e.symm
          have HT := hide (task_at (X := X) hbS hcb)
          have ltb : b < wr.heap.size := World.block_lt_of_cell? _ _ (hcb 0 _ rfl)
          have x4 : wr.cell? ⟨b, 4, none⟩ = some (.pointer a4) := hcb 4 _ rfl
          have hbase := mr_base hmr
          have HIN := hide (mr_in hmr)
          have HCHG := hide hmr.chg
          have HMP1 := hide (show MP X wr (X.bl tv cv) ⟨T, i, p, tr, C, f'⟩ (wr.setCell ⟨X.m, 6, none⟩ (.pointer a4)) from ⟨_, _, _, _, (hbase.re htl).set 6 (.pointer a4), hcm.put 6 (.pointer a4)⟩)
          have hdo := do_any HX.out HMP1.out HT.out htw hOK HNP.out
          obtain ⟨d, hd⟩ : ∃ d, doM X.of X.takes t T ⟨T, i, p, tr, C, f'⟩ = d := ⟨_, rfl⟩
          have hd2 : doM X.of X.takes t T ⟨t :: T, i, p, tr, C, f'⟩ = d := (doM_todo X.of X.takes t T _ T i p tr C f').trans hd
          have hdo2 : Calls Tryz.prog 35 #[.pointer (some ⟨X.m, 0, none⟩), .pointer (some ⟨b, 0, none⟩)] (wr.setCell ⟨X.m, 6, none⟩ (.pointer a4)) (DsPost X wr (X.bl tv cv) d) := by
            rw [← hd]; exact hdo
          have hdk := do_ok X.of X.takes HNP.out (takes_le HX.out) hOK
          rw [hd2] at hdk
          have HDO := hide hdo2
          have HDK := hide hdk
          have HD := hide hd2
          have HRN := hide hRN
          have HUB := hide (fun (s : Ms) (W : World) (h : MP X wr (X.bl tv cv) s W) => mp_unbase h HCHG.out HIN.out)
          clear hmr hcm hOK hRN hcb htw htl hFb hbase hdo hd hd2 hdo2 hdk hbS HMP1 hbm HT
          go_wp2_with fail
          refine HDO.out.mono ?_
          rintro e w2 hp
          cases d with
          | go s1 =>
            obtain ⟨rfl, hm⟩ := hp
            obtain ⟨n1, hn1, hR1⟩ := runsN_go X.of X.takes HRN.out HD.out
            have HINV := hide (show RunInv X R S r n1 w2 from ⟨s1, HUB.out _ _ hm, HDK.out, hR1⟩)
            have HLT := hide (show F w2 < F wr by have := (HF.out w2 ⟨_, HINV.out⟩).2 _ HINV.out; have := HNN.out; omega)
            clear hm hn1 hR1 HD HDK HRN HDO
            go_wp2
            exact ⟨⟨n1, HINV.out⟩, HLT.out⟩
          | dry =>
            obtain ⟨rfl, s1, hm⟩ := hp
            have hres := runsN_dry X.of X.takes HRN.out HD.out
            have HRES := hide (show RlPost X R S r (.returned (.int .i64 2)) w2 by rw [hres]; exact ⟨rfl, s1, HUB.out _ _ hm⟩)
            clear hm hres HD HDK HRN HDO
            go_wp2_with fail
            go_ret
            exact HRES.out
          | failed s1 =>
            obtain ⟨rfl, hm⟩ := hp
            have hok1 : MsOk X.np (X.ps.length - 1) s1 := HDK.out
            obtain ⟨T1, i3, p1, tr1, C1, f1⟩ := s1
            have hpot1 : C1.length + tr1.length + potS T1 + crd X.np T1 + 2050 * f1 ≤ 41002050 := hok1.hpot
            have HGB := hide (goBack_any (HUB.out _ _ hm) (fun c C hc => by
              have h9 := hok1.hC
              have hc : C1 = c :: C := hc
              rw [hc] at h9
              exact h9.2.1) hok1.htr (by omega) (by show C1.length ≤ 50000000; omega) (by show tr1.length ≤ 50000000; omega))
            cases C1 with
            | nil =>
              have hres := runsN_fail X.of X.takes HRN.out HD.out
              clear hm hok1 hpot1 HD HDK HRN HDO
              go_wp2_with fail
              refine HGB.out.mono ?_
              rintro e w3 ⟨rfl, hm3⟩
              have HRES := hide (show RlPost X R S r (.returned (.int .i64 1)) w3 by rw [hres]; exact ⟨rfl, _, hm3, rfl⟩)
              clear hm3 hres
              go_wp2_with fail
              go_ret
              exact HRES.out
            | cons c C1 =>
              obtain ⟨n1, hn1, hR1⟩ := runsN_back X.of X.takes HRN.out HD.out
              have HBK := hide (back_ok hok1)
              have HR1 := hide hR1
              have HN1 := hide hn1
              clear hm hok1 hpot1 HD HDK HRN HDO hR1 hn1
              go_wp2_with fail
              refine HGB.out.mono ?_
              rintro e w3 ⟨rfl, hm3⟩
              have HINV := hide (show RunInv X R S r n1 w3 from ⟨_, hm3, HBK.out, HR1.out⟩)
              have HLT := hide (show F w3 < F wr by have := (HF.out w3 ⟨_, HINV.out⟩).2 _ HINV.out; have := HNN.out; have := HN1.out; omega)
              clear hm3 HBK HR1
              go_wp2
              exact ⟨⟨n1, HINV.out⟩, HLT.out⟩
end
end Go.Proofs.YtcnliipkfccohabGreat
end
section
namespace Go.Proofs.YtcnliipkfccohabGreat
open Go.ChangeShapes Go.WideShapes Go.ChangeAt Go.RowKit
open SetM SpanM
attribute [local go_sem ↓] Go.wp_at_zero Go.wp_at_succ
set_option maxRecDepth 100000
set_option linter.unusedVariables false
set_option maxRecDepth 100000 in
set_option maxHeartbeats 1000000 in
theorem clone_any (v : Value) (l : List Sp) (w : World) (h : SpAt w v l) (hl : l.length ≤ 1000) :
    Calls Tryz.prog 46 #[v] w fun e w' => ∃ v', e = .returned v' ∧ Below w.heap.size w w' ∧ w'.ownsRow w.heap.size 33 2 v' l.length (flat l) := by
  obtain ⟨i0, hi0, hz0', hz1, hz2⟩ := info_parts info_sp
  have hsn := fun (W : World) (a : Option Addr) (n c : Nat) => Lib.run_eql_slice_nil (P := Tryz.prog) W 34 33 a n c 0 0 Tryz.underlying34
  rcases h with ⟨rfl, rfl⟩ | ⟨x, c, rfl, h1, h2, h3⟩
  · go_enter Tryz.func46, Tryz.ntmps46
    go_wp2
    go_ret
    exact ⟨_, rfl, bl_refl w, ⟨rfl, .inl ⟨rfl, rfl⟩⟩⟩
  · have hm0 := World.ownsRow_made (base := w.heap.size) (e := 33) (size := 2) w #[] 0 (Nat.le_refl _) (by simp [maxLen]) (by simp)
    have hnews : ∀ j u, (flat l)[j]? = some u → (w.alloc (.cells #[] 33)).cell? (x.add j) = some u := by
      intro j u hu
      have hj : j < l.length * 2 := by
        have := (List.getElem?_eq_some_iff.1 hu).1
        rwa [flat_len] at this
      have hq : j / 2 < l.length := by omega
      have hf := flat_at l (j / 2) hq
      have hc := h3 (j / 2) hq
      rcases Nat.mod_two_eq_zero_or_one j with hh | hh
      · have ht : j / 2 * 2 = j := by omega
        rw [ht] at hf hc
        rw [hu] at hf
        rw [Option.some.inj hf.1]
        exact cell_later (bl_alloc (bl_refl w) _) hc.1
      · have ht : j / 2 * 2 + 1 = j := by omega
        rw [ht] at hf hc
        rw [hu] at hf
        rw [Option.some.inj hf.2]
        exact cell_later (bl_alloc (bl_refl w) _) hc.2
    have hbb : (l.length) * 16 ≤ 140737488355328 := by omega
    clear h3
    go_enter Tryz.func46, Tryz.ntmps46
    go_wp2_with (at_builtin; (refine wpList_append_own _ rfl _ _ 34 rfl w.heap.size 33 i0 (.agg #[.int .i64 0, .int .i64 0]) 2 16 Tryz.underlying34 hi0 hz0' hz1 hz2 rfl (by decide) _ 0 [] rfl hm0 x l.length c (flat l) rfl (flat_len l) hnews (flat_one l) (by unfold maxLen; omega) (by omega) (by simp) ?_); intro v' w4 hv4 hg4 hat)
    go_ret
    rw [Nat.zero_add, List.nil_append] at hv4
    exact ⟨_, rfl, bl_own (bl_alloc (bl_refl w) _) hm0 hg4 (Nat.le_refl _), hv4⟩
attribute [local go_sem] later_cell later_frozen
theorem se_blk {W : World} {n j g o : Nat} {u v : Value} (h : W.cell? ⟨n, j, none⟩ = some u) (hn : g ≠ n) : (W.setCell ⟨g, o, none⟩ v).cell? ⟨n, j, none⟩ = some u := by
  rw [World.cell?_setCell_other _ _ _ _ (fun q => hn (by injection q))]
  exact h
section
variable {X : Mx} {R : World} {S : List Nat} {w w' : World}
set_option maxHeartbeats 8000000 in
theorem match_any {s : Ms} (hX : X.Ok) (h : MP X R S s w) (st : Nat) (hst : st < X.ps.length) (hi : s.i < X.ps.length) (hnp : X.np ≤ 512) :
    Calls Tryz.prog 26 #[.pointer (some ⟨X.m, 0, none⟩), .int .i64 ((st : Nat) : Int)] w fun e w' => ∃ v', e = .returned (.agg #[.int .i64 (X.of st), .int .i64 (X.of s.i), v']) ∧ Below w.heap.size w w' ∧ w'.ownsRow w.heap.size 33 2 v' s.p.length (flat s.p) := by
  have HST := hide (fun (W : World) (hb : Below w.heap.size w W) => stretch_m hX (mp_bl' h hb) st s.i hst hi)
  obtain ⟨rv, tv, cv, L, hr, hc⟩ := h
  have y5 : w.cell? ⟨X.m, 5, none⟩ = some (.int .i64 ((s.i : Nat) : Int)) := hc.c 5 _ rfl
  have y7 : w.cell? ⟨X.m, 7, none⟩ = some (.slice (some ⟨X.pb, 0, none⟩) X.np X.qc) := hc.c 7 _ rfl
  have lt1 := hc.s
  have hpl : s.p.length = X.np := hr.hp
  have hsp : SpAt w (.slice (some ⟨X.pb, 0, none⟩) X.np X.qc) s.p := own_spat (by rw [hpl]; exact hr.parts)
  have HCL := hide (fun (W : World) (hb : Below w.heap.size w W) => clone_any _ s.p W (spat_below hsp hb) (by omega))
  have hne : X.m ≠ w.heap.size := by omega
  clear hr hc hsp
  go_enter Tryz.func26, Tryz.ntmps26
  go_wp2_with fail
  obtain ⟨W0, hW0⟩ : ∃ W, w.alloc (.cells #[.int .i64 0, .int .i64 0, .slice none 0 0] 36) = W := ⟨_, rfl⟩
  have hb0 : Below w.heap.size w W0 := by rw [← hW0]; exact bl_alloc (bl_refl w) _
  have hcm0 : Cm W0 w.heap.size [.int .i64 0, .int .i64 0, .slice none 0 0] := by rw [← hW0]; exact cm_new _ _ rfl
  (try rw [hW0])
  obtain ⟨B, hB⟩ : ∃ b, w.heap.size = b := ⟨_, rfl⟩
  (try rw [hB])
  rw [hB] at hcm0
  have HB0 := hide hb0
  have HCM := hide hcm0
  have HBE := hide hB
  have y5 := cell_later hb0 y5
  have y7 := cell_later hb0 y7
  have lt1 := Nat.lt_of_lt_of_le lt1 hb0.size
  have hBm : B ≠ X.m := by omega
  clear hW0 hb0 hcm0 hne hB
  go_region_held3 (fun W => W.cell? ⟨X.m, 5, none⟩ = some (.int .i64 ((s.i : Nat) : Int)) ∧ W.cell? ⟨X.m, 7, none⟩ = some (.slice (some ⟨X.pb, 0, none⟩) X.np X.qc))
    (first | (refine ⟨?_, ?_⟩ <;> (repeat (first | with_reducible assumption | with_reducible refine dr_blk ?_ | with_reducible refine al_blk ?_ | with_reducible refine se_blk ?_ hBm)); done) | go_keep)
    (first
      | (go_at_call 45; refine (HST.out _ (bl_trans HB0.out (by repeat (first | exact bl_refl _ | assumption | refine bl_drew ?_)))).mono ?_; rintro e w1 ⟨rfl, hb1⟩; have hbb1 : Below W0.heap.size W0 w1 := bl_trans (by repeat (first | exact bl_refl _ | assumption | refine bl_drew ?_)) hb1; have u5 := cell_later hbb1 y5; have u7 := cell_later hbb1 y7; have l1 := Nat.lt_of_lt_of_le lt1 hbb1.size; have q1 := HCM.out.bl hbb1; have q10 : w1.cell? ⟨B, 0, none⟩ = some (.int .i64 0) := q1.c 0 _ rfl; have q11 : w1.cell? ⟨B, 1, none⟩ = some (.int .i64 0) := q1.c 1 _ rfl; have q12 : w1.cell? ⟨B, 2, none⟩ = some (.slice none 0 0) := q1.c 2 _ rfl; have g10 := q1.f 0; have g11 := q1.f 1; have g12 := q1.f 2; have g13 := q1.s)
      | (go_at_call 46; refine (HCL.out _ (bl_trans HB0.out (by repeat (first | exact bl_refl _ | assumption | refine bl_drew ?_)))).mono ?_; rintro e w2 ⟨v2, rfl, hb2, ho2⟩; have hbb2 : Below W0.heap.size W0 w2 := bl_trans (by repeat (first | exact bl_refl _ | assumption | refine bl_drew ?_)) hb2; have t5 := cell_later hbb2 y5; have t7 := cell_later hbb2 y7; have l2 := Nat.lt_of_lt_of_le lt1 hbb2.size; have p1 := HCM.out.bl hbb2; have p10 : w2.cell? ⟨B, 0, none⟩ = some (.int .i64 0) := p1.c 0 _ rfl; have p11 : w2.cell? ⟨B, 1, none⟩ = some (.int .i64 0) := p1.c 1 _ rfl; have p12 : w2.cell? ⟨B, 2, none⟩ = some (.slice none 0 0) := p1.c 2 _ rfl; have k10 := p1.f 0; have k11 := p1.f 1; have k12 := p1.f 2; have k13 := p1.s; obtain ⟨A2, c2, rfl⟩ := own_slice ho2)
      | fail)
  have HO := hide ho2
  have HB2 := hide hbb2
  clear u5 u7 t5 t7 q10 q11 q12 g10 g11 g12 k10 k11 k12 q1 p1 ho2 hb1 hb2
  have hs1 : B < w1.heap.size := g13
  have hfin := row_kept (row_kept (row_kept HO.out (gr_set w2 B 0 (.int .i64 (X.of st))) (fun k hk e => by injection hk with hk; have := (World.ownsRow.lt HO.out _ e).1; omega)) (gr_set _ B 1 (.int .i64 (X.of s.i))) (fun k hk e => by injection hk with hk; have := (World.ownsRow.lt HO.out _ e).1; omega)) (gr_set _ B 2 (.slice A2 X.np c2)) (fun k hk e => by injection hk with hk; have := (World.ownsRow.lt HO.out _ e).1; omega)
  have hbf : Below w.heap.size w (((w2.setCell ⟨B, 0, none⟩ (.int .i64 (X.of st))).setCell ⟨B, 1, none⟩ (.int .i64 (X.of s.i))).setCell ⟨B, 2, none⟩ (.slice A2 X.np c2)) := bl_set (bl_set (bl_set (bl_trans HB0.out HB2.out) (Nat.le_of_eq HBE.out) _) (Nat.le_of_eq HBE.out) _) (Nat.le_of_eq HBE.out) _
  have hbase : w.heap.size ≤ w1.heap.size := by have := HBE.out; omega
  have ho3 := own_base hfin hbase
  have HFIN := hide ho3
  have HBF := hide hbf
  clear hfin hbf hbase ho3 hbb1 hbb2
  go_wp2
  refine bodyPost_ret (v := .agg #[.int .i64 (X.of st), .int .i64 (X.of s.i), .slice A2 X.np c2]) ?_ rfl ⟨.slice A2 X.np c2, rfl, HBF.out, ?_⟩
  · rw [results_cell1 rfl]
    go_simp
  · have := HFIN.out
    rw [hpl] at this ⊢
    exact this
end
end Go.Proofs.YtcnliipkfccohabGreat
end
section
namespace Go.Proofs.YtcnliipkfccohabGreat
open Go.ChangeShapes Go.WideShapes Go.ChangeAt Go.RowKit
open SetM SpanM
attribute [local go_sem ↓] Go.wp_at_zero Go.wp_at_succ
set_option maxRecDepth 100000
set_option linter.unusedVariables false
attribute [local go_sem] later_cell later_frozen
theorem results_cell4 {fn : Func} {p a b c : Tmp} {ty : TypeId} (h : fn.results = #[.cell p ty, .tmp a, .tmp b, .tmp c]) (tmps : Array Value) (P : Program) (w : World) :
    (results fn tmps).run P w = ((asAddr (tmps.getD p undef)).run P w).andThen fun x w₁ => ((loadVar ty x).run P w₁).andThen fun v w₂ => .ok (.tuple #[v, tmps.getD a undef, tmps.getD b undef, tmps.getD c undef]) w₂ := by
  simp only [results, h]
  simp [Sem.run_bind, Result.andThen]
theorem results_tmp3 {fn : Func} {a b c : Tmp} (h : fn.results = #[.tmp a, .tmp b, .tmp c]) (tmps : Array Value) (P : Program) (w : World) :
    (results fn tmps).run P w = .ok (.tuple #[tmps.getD a undef, tmps.getD b undef, tmps.getD c undef]) w := by
  simp only [results, h]
  simp
def zM : Value := .agg #[.int .i64 0, .int .i64 0, .slice none 0 0]
def outV : Ro → Int
  | .found _ _ _ => 0
  | .fail _ => 1
  | .dry => 2
def AnPost (of : Nat → Int) (st : Nat) (r : Ro) (w : World) (e : Ending) (w' : World) : Prop := match r with
  | .dry => e = .returned (.tuple #[zM, .int .i64 0, .bool false, .int .i64 9]) ∧ Below w.heap.size w w'
  | .fail f => e = .returned (.tuple #[zM, .int .i64 ((f : Nat) : Int), .bool false, .int .i64 0]) ∧ Below w.heap.size w w'
  | .found i p f => ∃ v', e = .returned (.tuple #[.agg #[.int .i64 (of st), .int .i64 (of i), v'], .int .i64 ((f : Nat) : Int), .bool true, .int .i64 0]) ∧ Below w.heap.size w w' ∧ w'.ownsRow w.heap.size 33 2 v' p.length (flat p)
def RsAt (X : Mx) (R : World) (S : List Nat) (r : Ro) (w : World) : Prop := match r with
  | .found i p f => ∃ s, MP X R S s w ∧ s.i = i ∧ s.p = p ∧ s.f = f ∧ i + 1 ≤ X.ps.length
  | .fail f => ∃ s, MP X R S s w ∧ s.f = f
  | .dry => ∃ s, MP X R S s w
theorem rn_rs {X : Mx} {R : World} {S : List Nat} {r : Ro} {e : Ending} {w' : World} (h : RlPost X R S r e w') : e = .returned (.int .i64 (outV r)) ∧ RsAt X R S r w' := by
  cases r with
  | found i p f => exact h
  | fail f => exact h
  | dry => exact h
section
variable {X : Mx} {R : World} {S : List Nat} {w w' : World}
set_option maxHeartbeats 8000000 in
theorem answer_any (hX : X.Ok) (hnp : X.np ≤ 512) (r : Ro) (h : RsAt X R S r w) (st : Nat) (hst : st < X.ps.length) :
    Calls Tryz.prog 18 #[.pointer (some ⟨X.m, 0, none⟩), .int .i64 ((st : Nat) : Int), .int .i64 (outV r)] w (AnPost X.of st r w) := by
  cases r with
  | dry =>
    show Calls _ _ #[.pointer (some ⟨X.m, 0, none⟩), .int .i64 ((st : Nat) : Int), .int .i64 2] _ _
    clear h
    go_enter Tryz.func18, Tryz.ntmps18
    go_wp2
    refine bodyPost_ret (v := .tuple #[zM, .int .i64 0, .bool false, .int .i64 9]) ?_ rfl ⟨rfl, ?_⟩
    · rw [results_cell4 rfl]
      unfold zM
      go_simp
    · repeat (first | exact bl_refl _ | refine bl_drew ?_ | refine bl_alloc ?_ _ | refine bl_set ?_ (by simp) _)
  | fail f =>
    show Calls _ _ #[.pointer (some ⟨X.m, 0, none⟩), .int .i64 ((st : Nat) : Int), .int .i64 1] _ _
    obtain ⟨s, hm, hf⟩ := h
    obtain ⟨_, _, _, hc⟩ := mp_cs hm
    have y3 : w.cell? ⟨X.m, 3, none⟩ = some (.int .i64 ((f : Nat) : Int)) := by rw [← hf]; exact hc.c 3 _ rfl
    have lt1 := hc.s
    have hne : w.heap.size ≠ X.m := by omega
    clear hm hc hf
    go_enter Tryz.func18, Tryz.ntmps18
    go_wp2_with fail
    go_region
    go_wp2
    refine bodyPost_ret (v := .tuple #[zM, .int .i64 ((f : Nat) : Int), .bool false, .int .i64 0]) ?_ rfl ⟨rfl, ?_⟩
    · rw [results_cell4 rfl]
      unfold zM
      go_simp
    · repeat (first | exact bl_refl _ | refine bl_drew ?_ | refine bl_alloc ?_ _ | refine bl_set ?_ (by simp) _)
  | found i p f =>
    show Calls _ _ #[.pointer (some ⟨X.m, 0, none⟩), .int .i64 ((st : Nat) : Int), .int .i64 0] _ _
    obtain ⟨s, hm, hi, hp, hf, hil⟩ := h
    subst hi hp hf
    have HMT := hide (fun (W : World) (hb : Below w.heap.size w W) => match_any hX (mp_bl' hm hb) st hst (by omega) hnp)
    obtain ⟨_, _, _, hc⟩ := mp_cs hm
    have y3 : w.cell? ⟨X.m, 3, none⟩ = some (.int .i64 ((s.f : Nat) : Int)) := hc.c 3 _ rfl
    have lt1 := hc.s
    clear hm hc
    go_enter Tryz.func18, Tryz.ntmps18
    go_wp2_with fail
    obtain ⟨W0, hW0⟩ : ∃ W, w.alloc (.cells #[.int .i64 0, .int .i64 0, .slice none 0 0] 36) = W := ⟨_, rfl⟩
    have hb0 : Below w.heap.size w W0 := by rw [← hW0]; exact bl_alloc (bl_refl w) _
    have hcm0 : Cm W0 w.heap.size [.int .i64 0, .int .i64 0, .slice none 0 0] := by rw [← hW0]; exact cm_new _ _ rfl
    (try rw [hW0])
    obtain ⟨B, hB⟩ : ∃ b, w.heap.size = b := ⟨_, rfl⟩
    (try rw [hB])
    rw [hB] at hcm0
    have HB0 := hide hb0
    have HCM := hide hcm0
    have HBE := hide hB
    have y3 := cell_later hb0 y3
    have hBm : B ≠ X.m := by omega
    have lt1 := Nat.lt_of_lt_of_le lt1 hb0.size
    clear hW0 hb0 hcm0 hB
    go_region_held3 (fun W => W.cell? ⟨X.m, 3, none⟩ = some (.int .i64 ((s.f : Nat) : Int)) ∧ True)
      (first | (refine ⟨?_, trivial⟩; (repeat (first | with_reducible assumption | with_reducible refine dr_blk ?_ | with_reducible refine al_blk ?_ | with_reducible refine se_blk ?_ hBm)); done) | go_keep)
      (first | (go_at_call 26; refine (HMT.out _ (bl_trans HB0.out (by repeat (first | exact bl_refl _ | refine bl_drew ?_)))).mono ?_; rintro e w2 ⟨v2, rfl, hb2, ho2⟩; have hbb2 : Below W0.heap.size W0 w2 := bl_trans (by repeat (first | exact bl_refl _ | refine bl_drew ?_)) hb2; have t3 := cell_later hbb2 y3; have l2 := Nat.lt_of_lt_of_le lt1 hbb2.size; have p1 := HCM.out.bl hbb2; have p10 : w2.cell? ⟨B, 0, none⟩ = some (.int .i64 0) := p1.c 0 _ rfl; have p11 : w2.cell? ⟨B, 1, none⟩ = some (.int .i64 0) := p1.c 1 _ rfl; have p12 : w2.cell? ⟨B, 2, none⟩ = some (.slice none 0 0) := p1.c 2 _ rfl; have k10 := p1.f 0; have k11 := p1.f 1; have k12 := p1.f 2; have k13 := p1.s; obtain ⟨A2, c2, rfl⟩ := own_slice ho2) | fail)
    have HO := hide ho2
    have HB2 := hide hbb2
    have hs1 : B < W0.heap.size := HCM.out.s
    have hs2 : W0.heap.size ≤ W0.drew.heap.size := Nat.le_refl _
    have hfin := row_kept (row_kept (row_kept HO.out (gr_set w2 B 0 (.int .i64 (X.of st))) (fun k hk e => by injection hk with hk; have := (World.ownsRow.lt HO.out _ e).1; omega)) (gr_set _ B 1 (.int .i64 (X.of s.i))) (fun k hk e => by injection hk with hk; have := (World.ownsRow.lt HO.out _ e).1; omega)) (gr_set _ B 2 (.slice A2 s.p.length c2)) (fun k hk e => by injection hk with hk; have := (World.ownsRow.lt HO.out _ e).1; omega)
    have hbf : Below w.heap.size w (((w2.setCell ⟨B, 0, none⟩ (.int .i64 (X.of st))).setCell ⟨B, 1, none⟩ (.int .i64 (X.of s.i))).setCell ⟨B, 2, none⟩ (.slice A2 s.p.length c2)) := bl_set (bl_set (bl_set (bl_trans HB0.out HB2.out) (Nat.le_of_eq HBE.out) _) (Nat.le_of_eq HBE.out) _) (Nat.le_of_eq HBE.out) _
    have ho3 := own_base hfin (show w.heap.size ≤ _ from Nat.le_trans HB0.out.size hs2)
    have HFIN := hide ho3
    have HBF := hide hbf
    clear hfin hbf ho3 hbb2 ho2 hb2 p1 t3 k10 k11 k12
    go_wp2
    refine bodyPost_ret (v := .tuple #[.agg #[.int .i64 (X.of st), .int .i64 (X.of s.i), .slice A2 s.p.length c2], .int .i64 ((s.f : Nat) : Int), .bool true, .int .i64 0]) ?_ rfl ⟨_, rfl, HBF.out, HFIN.out⟩
    rw [results_cell4 rfl]
    go_simp
end
theorem cnt_at : ∀ (l : List Int) (i : Nat) (h : i < l.length), l.Pairwise (· < ·) → l.countP (· < l[i]) = i
  | [], i, h, _ => absurd h (Nat.not_lt_zero _)
  | a :: r, 0, h, hp => by
    rw [List.pairwise_cons] at hp
    rw [List.countP_eq_zero]
    intro x hx
    simp only [List.getElem_cons_zero, decide_eq_true_eq]
    rcases List.mem_cons.1 hx with rfl | hx
    · omega
    · have := hp.1 x hx; omega
  | a :: r, i + 1, h, hp => by
    rw [List.pairwise_cons] at hp
    have hi : i < r.length := by simpa using h
    have h1 := cnt_at r i hi hp.2
    have h2 := hp.1 r[i] (List.getElem_mem hi)
    simp only [List.getElem_cons_succ]
    rw [List.countP_cons, h1]
    simp [h2]
def psS (s : ByteArray) : List Nat := plGo s.data.toList 0
theorem plGo_strict : ∀ (l : List UInt8) (k : Nat), (plGo l k).Pairwise (· < ·)
  | [], k => by simp [plGo]
  | c :: r, k => by
    have h1 := (plGo_in r (k + 1)).1
    have h2 := plGo_strict r (k + 1)
    unfold plGo
    split
    · exact List.pairwise_cons.2 ⟨fun x hx => by have := h1 x hx; omega, h2⟩
    · exact h2
def PrPost (t : Rt) (fold : Bool) (s : ByteArray) (at_ fuel : Int) (w : World) (e : Ending) (w' : World) : Prop :=
  if cnB t 16 512 = false then e = .returned (.tuple #[.pointer none, .int .i64 0, .int .i64 10]) ∧ Below w.heap.size w w'
  else if at_ ∈ (psS s).map (fun (n : Nat) => (n : Int)) then ∃ (X : Mx) (i : Nat), e = .returned (.tuple #[.pointer (some ⟨X.m, 0, none⟩), .int .i64 ((i : Nat) : Int), .int .i64 0]) ∧ X.s = s ∧ X.fold = fold ∧ X.ps = psS s ∧ X.np = gM t ∧ NdAt X.W X.rb t 0 ∧
    (∃ h : i < X.ps.length, ((X.ps[i] : Nat) : Int) = at_) ∧ MP X w [] ⟨[], 0, List.replicate (gM t) (0, 0), [], [], (min (max fuel 0) 20000).toNat⟩ w'
  else e = .returned (.tuple #[.pointer none, .int .i64 0, .int .i64 3]) ∧ Below w.heap.size w w'
theorem search_ps {X : Mx} {R : World} {S : List Nat} {s0 : Ms} {W : World} (h : MP X R S s0 W) {s : ByteArray} (hps : X.ps = psS s) (hl : X.ps.length ≤ 1000) (a : Int) :
    Calls Tryz.prog 33 #[.slice (some ⟨X.plb, 0, none⟩) X.ps.length X.pc, .int .i64 a] W fun e w' => e = .returned (.tuple #[.int .i64 ((((psS s).map (fun (n : Nat) => (n : Int))).countP (· < a) : Nat) : Int), .bool (((psS s).map (fun (n : Nat) => (n : Int))).contains a)]) ∧ ∃ q, w' = W.drewN q := by
  obtain ⟨_, _, _, _, hr, _⟩ := h
  have hlen : ((psS s).map (fun (n : Nat) => (n : Int))).length = X.ps.length := by rw [List.length_map, hps]
  have htk : ((psS s).map (fun (n : Nat) => (n : Int))).take X.ps.length = (psS s).map (fun (n : Nat) => (n : Int)) := List.take_of_length_le (by omega)
  have hsorted : ((psS s).map (fun (n : Nat) => (n : Int))).Pairwise (· ≤ ·) := by
    rw [List.pairwise_map]
    exact (plGo_in s.data.toList 0).2.1.imp (fun h => by omega)
  have hcon := AnyG.slices_BinarySearch_int srcI X.plb 0 X.ps.length X.pc ((psS s).map (fun (n : Nat) => (n : Int))) a W (by omega) (by omega) (fun j hj => by
    rw [Nat.zero_add, World.ownsRow.cellAt hr.pl j (by omega)]
    have hj2 : j < X.ps.length := by omega
    have hj3 : j < (psS s).length := by rw [← hps]; exact hj2
    have e1 : (natC X.ps)[j]? = some (.int .i64 ((X.ps[j] : Nat) : Int)) := by simp [natC, hj2]
    have e2 : ((psS s).map (fun (n : Nat) => (n : Int))).getD j 0 = ((X.ps[j] : Nat) : Int) := by
      rw [List.getD_eq_getElem?_getD, List.getElem?_map, List.getElem?_eq_getElem hj3]
      simp [hps]
    rw [e2]
    exact e1) (by rw [htk]; exact hsorted)
  rw [htk] at hcon
  exact hcon
set_option maxHeartbeats 16000000 in
theorem prepare_any {w : World} {t : Rt} (h : RxAt w t) (hsz : sM t ≤ 1000) (fold : Bool) (s : ByteArray) (hs : s.size ≤ 999) (at_ fuel : Int) :
    Calls Tryz.prog 17 #[t.v, .bool fold, .string s, .int .i64 at_, .int .i64 fuel] w (PrPost t fold s at_ fuel w) := by
  obtain ⟨tA, tc, hkv⟩ := ksat_len h.ks
  obtain ⟨rA, rc, hrv⟩ := rwat_len h.rows
  have hv : t.v = .agg #[.int .i64 t.k, .string t.ch, .bool t.nt, .slice rA t.rows.length rc, .int .i64 t.mi, .int .i64 t.ma, .bool t.lz, .slice tA t.kids.length tc] := by unfold Rt.v Rt.cs; rw [hkv, hrv]
  obtain ⟨r, hr⟩ : ∃ r, cnB t 16 512 = r := ⟨_, rfl⟩
  have HMAY := hide (fun (W : World) (hb : Below w.heap.size w W) => rxmay_any h (by omega) W hb)
  have HNM := hide (fun (W : World) (hb : Below w.heap.size w W) => newMachine_any (rx_below h hb) hsz fold s fuel hs)
  unfold SmPost at HMAY
  rw [hr] at HMAY
  rw [hv] at HMAY HNM ⊢
  have HRR := hide hr
  obtain ⟨W0, hW0⟩ : ∃ W, w.alloc (.cells #[.int .i64 t.k, .string t.ch, .bool t.nt, .slice rA t.rows.length rc, .int .i64 t.mi, .int .i64 t.ma, .bool t.lz, .slice tA t.kids.length tc] 25) = W := ⟨_, rfl⟩
  have hb0 : Below w.heap.size w W0 := by rw [← hW0]; exact bl_alloc (bl_refl w) _
  have hcm0 : Cm W0 w.heap.size [.int .i64 t.k, .string t.ch, .bool t.nt, .slice rA t.rows.length rc, .int .i64 t.mi, .int .i64 t.ma, .bool t.lz, .slice tA t.kids.length tc] := by rw [← hW0]; exact cm_new _ _ rfl
  have HCM := hide hcm0
  have HB0 := hide hb0
  have HPL := hide (show (psS s).length ≤ 1000 from by have h1 := (plGo_in s.data.toList 0).2.2.1; have h2 : s.data.toList.length = s.size := Array.length_toList; unfold psS; omega)
  have HW0 := hide hW0
  clear h hsz hkv hrv hv hr hb0 hcm0 hW0
  go_enter Tryz.func17, Tryz.ntmps17
  go_wp2_with fail
  rw [HW0.out]
  refine (HMAY.out W0 HB0.out).mono ?_
  rintro e w1 ⟨rfl, hb1⟩
  have HB1 := hide (bl_trans HB0.out hb1)
  have hcm1 := HCM.out.bl hb1
  cases r with
  | false =>
    clear hcm1 hb1
    go_wp2
    refine bodyPost_ret (results_tmp3 rfl _ _ _) rfl ?_
    unfold PrPost
    rw [HRR.out, if_pos rfl]
    exact ⟨rfl, HB1.out⟩
  | true =>
    obtain ⟨B, hB⟩ : ∃ b, w.heap.size = b := ⟨_, rfl⟩
    rw [hB] at hcm1
    (try rw [hB])
    have c0 : w1.cell? ⟨B, 0, none⟩ = some (.int .i64 t.k) := hcm1.c 0 _ rfl
    have c1 : w1.cell? ⟨B, 1, none⟩ = some (.string t.ch) := hcm1.c 1 _ rfl
    have c2 : w1.cell? ⟨B, 2, none⟩ = some (.bool t.nt) := hcm1.c 2 _ rfl
    have c3 : w1.cell? ⟨B, 3, none⟩ = some (.slice rA t.rows.length rc) := hcm1.c 3 _ rfl
    have c4 : w1.cell? ⟨B, 4, none⟩ = some (.int .i64 t.mi) := hcm1.c 4 _ rfl
    have c5 : w1.cell? ⟨B, 5, none⟩ = some (.int .i64 t.ma) := hcm1.c 5 _ rfl
    have c6 : w1.cell? ⟨B, 6, none⟩ = some (.bool t.lz) := hcm1.c 6 _ rfl
    have c7 : w1.cell? ⟨B, 7, none⟩ = some (.slice tA t.kids.length tc) := hcm1.c 7 _ rfl
    clear hcm1 hb1
    go_wp2_with fail
    refine (HNM.out w1 HB1.out).mono ?_
    rintro e w2 ⟨X, rfl, hXs, hXf, hXp, hXn, hXd, hXb, hmr, hcm⟩
    have hMP : MP X w [] ⟨[], 0, List.replicate (gM t) (0, 0), [], [], (min (max fuel 0) 20000).toNat⟩ w2 := mp_unbase (R := w) (S := []) (S' := []) (w := w1) ⟨_, _, _, _, hmr, hcm⟩ (chg_of HB1.out []) (fun k hk => by cases hk)
    have y1 : w2.cell? ⟨X.m, 1, none⟩ = some (.slice (some ⟨X.plb, 0, none⟩) X.ps.length X.pc) := hcm.c 1 _ rfl
    have hXp2 : X.ps = psS s := hXp
    have hlen : X.ps.length ≤ 1000 := by rw [hXp2]; exact HPL.out
    have HBS := hide (search_ps hMP hXp2 hlen at_)
    have HMP := hide hMP
    have HX := hide (And.intro hXs (And.intro hXf (And.intro hXp2 (And.intro hXn hXd))))
    have HB2 := hide (bl_trans HB1.out hXb)
    clear hMP hmr hcm hXs hXf hXp hXn hXd hXb hXp2 c0 c1 c2 c3 c4 c5 c6 c7
    obtain ⟨k, hk⟩ : ∃ k, ((psS s).map (fun (n : Nat) => (n : Int))).countP (· < at_) = k := ⟨_, rfl⟩
    obtain ⟨b, hb⟩ : ∃ b, ((psS s).map (fun (n : Nat) => (n : Int))).contains at_ = b := ⟨_, rfl⟩
    rw [hk, hb] at HBS
    have HK := hide hk
    have HBB := hide hb
    clear hk hb
    go_wp2_with fail
    refine HBS.out.mono ?_
    rintro e w3 ⟨rfl, q, rfl⟩
    cases b with
    | false =>
      have hno : at_ ∉ (psS s).map (fun (n : Nat) => (n : Int)) := fun hm => by
        have := HBB.out
        rw [List.contains_iff_mem.2 hm] at this
        cases this
      have HNO := hide hno
      clear hno
      go_wp2
      refine bodyPost_ret (results_tmp3 rfl _ _ _) rfl ?_
      unfold PrPost
      rw [HRR.out, if_neg (fun h => by cases h), if_neg HNO.out]
      exact ⟨rfl, bl_drewN HB2.out q⟩
    | true =>
      have hyes : at_ ∈ (psS s).map (fun (n : Nat) => (n : Int)) := List.contains_iff_mem.1 HBB.out
      have HYES := hide hyes
      obtain ⟨j, hj, hje⟩ := List.mem_iff_getElem.1 hyes
      have hst : ((psS s).map (fun (n : Nat) => (n : Int))).Pairwise (· < ·) := by
        rw [List.pairwise_map]
        exact (plGo_strict s.data.toList 0).imp (fun h => by omega)
      have hkj : k = j := by
        rw [← HK.out, ← hje]
        exact cnt_at _ j hj hst
      subst hkj
      have hj2 : k < X.ps.length := by rw [HX.out.2.2.1]; simpa using hj
      have hje2 : ((X.ps[k] : Nat) : Int) = at_ := by
        rw [← hje, List.getElem_map]
        have := HX.out.2.2.1
        simp [this]
      have HEND := hide (show ∃ h : k < X.ps.length, ((X.ps[k] : Nat) : Int) = at_ from ⟨hj2, hje2⟩)
      clear hyes hj hje hst hj2 hje2
      go_wp2
      refine bodyPost_ret (results_tmp3 rfl _ _ _) rfl ?_
      unfold PrPost
      rw [HRR.out, if_neg (fun h => by cases h), if_pos HYES.out]
      exact ⟨X, k, rfl, HX.out.1, HX.out.2.1, HX.out.2.2.1, HX.out.2.2.2.1, HX.out.2.2.2.2, HEND.out, mp_bl' HMP.out (bl_drewN (bl_refl w2) q)⟩
end Go.Proofs.YtcnliipkfccohabGreat
end
section
namespace Go.Proofs.YtcnliipkfccohabGreat
open Go.ChangeShapes Go.WideShapes Go.ChangeAt Go.RowKit
open SetM SpanM
attribute [local go_sem ↓] Go.wp_at_zero Go.wp_at_succ
set_option maxRecDepth 100000
set_option linter.unusedVariables false
attribute [local go_sem] later_cell later_frozen
def chG (s : ByteArray) (ps : List Nat) (i : Nat) : ByteArray := s.extract (ps.getD i 0) (ps.getD (i + 1) 0)
def edgeG (s : ByteArray) (ps : List Nat) (i : Nat) : Bool := (decide (0 < i) && wdB (chG s ps (i - 1)).data.toList) != (decide (i + 1 < ps.length) && wdB (chG s ps i).data.toList)
def tkG (s : ByteArray) (ps : List Nat) (fold : Bool) (x : Rt) (i : Nat) : Option Nat :=
  if x.k = 8 then (if i = 0 then some 0 else none)
  else if x.k = 9 then (if i + 1 = ps.length then some 0 else none)
  else if x.k = 10 then (if edgeG s ps i = true then some 0 else none)
  else if x.k = 11 then (if edgeG s ps i = true then none else some 0)
  else if i + 1 < ps.length then (if accB fold x (chG s ps i) = true then some 1 else none)
  else none
theorem tk_eq (X : Mx) : X.takes = tkG X.s X.ps X.fold := rfl
def ofG (ps : List Nat) (b : Nat) : Int := ((ps.getD b 0 : Nat) : Int)
theorem of_eq (X : Mx) : X.of = ofG X.ps := rfl
theorem chg_bl {R w : World} (h : Chg R w []) : Below R.heap.size R w := ⟨h.os, h.tape, h.output, h.size, fun k hk => h.block k hk (by simp)⟩
theorem rs_bl {X : Mx} {R w : World} {r : Ro} (h : RsAt X R [] r w) : Below R.heap.size R w := by
  cases r with
  | found i p f => obtain ⟨s, ⟨_, _, _, _, hr, _⟩, _⟩ := h; exact chg_bl hr.chg
  | fail f => obtain ⟨s, ⟨_, _, _, _, hr, _⟩, _⟩ := h; exact chg_bl hr.chg
  | dry => obtain ⟨s, ⟨_, _, _, _, hr, _⟩⟩ := h; exact chg_bl hr.chg
theorem cnB_ok {t : Rt} (h : cnB t 16 512 = true) : okM t = true ∧ pM t ≤ 512 := by
  obtain ⟨h1, h2, h3⟩ := cnB_to h
  exact ⟨h3, by omega⟩
theorem ok_of {X : Mx} {s : ByteArray} (h1 : X.s = s) (h2 : X.ps = psS s) (hs : s.size ≤ 999) : X.Ok := by
  have hlen : s.data.toList.length = s.size := Array.length_toList
  refine ⟨?_, ?_, fun i hi => ?_, fun i hi => ?_, by rw [h1]; omega⟩
  · rw [h2]; exact (plGo_in s.data.toList 0).2.2.2
  · rw [h2]; have := (plGo_in s.data.toList 0).2.2.1; unfold psS; omega
  · simp only [h2]; exact plGo_up s.data.toList i (by rw [h2] at hi; exact hi)
  · simp only [h2, h1]; have := plGo_top s.data.toList i (by rw [h2] at hi; exact hi); rw [hlen] at this; exact this
def AtPost (t : Rt) (fold : Bool) (s : ByteArray) (at_ fuel : Int) (w : World) (e : Ending) (w' : World) : Prop :=
  if cnB t 16 512 = false then e = .returned (.tuple #[zM, .int .i64 0, .bool false, .int .i64 10]) ∧ Below w.heap.size w w'
  else if at_ ∈ (psS s).map (fun (n : Nat) => (n : Int)) then ∃ (i : Nat) (r : Ro), (∃ h : i < (psS s).length, (((psS s)[i] : Nat) : Int) = at_) ∧
    On (ofG (psS s)) (tkG s (psS s) fold) (min (max fuel 0) 20000).toNat [.hold t 0] i (List.replicate (gM t) (-1, -1)) r ∧ AnPost (ofG (psS s)) i r w e w'
  else e = .returned (.tuple #[zM, .int .i64 0, .bool false, .int .i64 3]) ∧ Below w.heap.size w w'
set_option maxHeartbeats 16000000 in
theorem at_any {w : World} {t : Rt} (h : RxAt w t) (hsz : sM t ≤ 1000) (fold : Bool) (s : ByteArray) (hs : s.size ≤ 999) (at_ fuel : Int) :
    Calls Tryz.prog 9 #[t.v, .bool fold, .string s, .int .i64 at_, .int .i64 fuel] w (AtPost t fold s at_ fuel w) := by
  obtain ⟨tA, tc, hkv⟩ := ksat_len h.ks
  obtain ⟨rA, rc, hrv⟩ := rwat_len h.rows
  have hv : t.v = .agg #[.int .i64 t.k, .string t.ch, .bool t.nt, .slice rA t.rows.length rc, .int .i64 t.mi, .int .i64 t.ma, .bool t.lz, .slice tA t.kids.length tc] := by unfold Rt.v Rt.cs; rw [hkv, hrv]
  have HPR := hide (fun (W : World) (hb : Below w.heap.size w W) => prepare_any (rx_below h hb) hsz fold s hs at_ fuel)
  rw [hv] at HPR ⊢
  have HSZ := hide hsz
  have HS := hide hs
  have hb0 : Below w.heap.size w ((w.alloc (.cells #[.int .i64 t.k, .string t.ch, .bool t.nt, .slice rA t.rows.length rc, .int .i64 t.mi, .int .i64 t.ma, .bool t.lz, .slice tA t.kids.length tc] 25)).alloc (.cells #[.int .i64 0, .int .i64 0, .slice none 0 0] 36)) := bl_alloc (bl_alloc (bl_refl w) _) _
  have hcm0 : Cm ((w.alloc (.cells #[.int .i64 t.k, .string t.ch, .bool t.nt, .slice rA t.rows.length rc, .int .i64 t.mi, .int .i64 t.ma, .bool t.lz, .slice tA t.kids.length tc] 25)).alloc (.cells #[.int .i64 0, .int .i64 0, .slice none 0 0] 36)) (w.heap.size + 1) [.int .i64 0, .int .i64 0, .slice none 0 0] := cm_new _ _ (by simp)
  have HB0 := hide hb0
  have HCM := hide hcm0
  clear h hsz hkv hrv hv hs hb0 hcm0
  go_enter Tryz.func9, Tryz.ntmps9
  go_wp2_with fail
  refine (HPR.out _ HB0.out).mono ?_
  rintro e w1 hp
  obtain ⟨W0, hW0⟩ : ∃ W, ((w.alloc (.cells #[.int .i64 t.k, .string t.ch, .bool t.nt, .slice rA t.rows.length rc, .int .i64 t.mi, .int .i64 t.ma, .bool t.lz, .slice tA t.kids.length tc] 25)).alloc (.cells #[.int .i64 0, .int .i64 0, .slice none 0 0] 36)) = W := ⟨_, rfl⟩
  rw [hW0] at hp HB0 HCM
  clear hW0
  obtain ⟨B, hB⟩ : ∃ b, w.heap.size + 1 = b := ⟨_, rfl⟩
  rw [hB] at HCM
  have HBE := hide (show w.heap.size ≤ B by omega)
  (try rw [hB])
  clear hB
  unfold PrPost at hp
  by_cases c1 : cnB t 16 512 = false
  · rw [if_pos c1] at hp
    obtain ⟨rfl, hb1⟩ := hp
    have hcm1 := HCM.out.bl hb1
    have b0 : w1.cell? ⟨B, 0, none⟩ = some (.int .i64 0) := hcm1.c 0 _ rfl
    have b1 : w1.cell? ⟨B, 1, none⟩ = some (.int .i64 0) := hcm1.c 1 _ rfl
    have b2 : w1.cell? ⟨B, 2, none⟩ = some (.slice none 0 0) := hcm1.c 2 _ rfl
    have g0 := hcm1.f 0
    have g1 := hcm1.f 1
    have g2 := hcm1.f 2
    have C1 := hide c1
    have HBF := hide (show Below w.heap.size w (((w1.setCell ⟨B, 0, none⟩ (.int .i64 0)).setCell ⟨B, 1, none⟩ (.int .i64 0)).setCell ⟨B, 2, none⟩ (.slice none 0 0)) from bl_set (bl_set (bl_set (bl_trans HB0.out hb1) HBE.out _) HBE.out _) HBE.out _)
    clear hcm1 hb1 c1
    go_wp2
    refine bodyPost_ret (v := .tuple #[zM, .int .i64 0, .bool false, .int .i64 10]) ?_ rfl ?_
    · rw [results_cell4 rfl]
      unfold zM
      go_simp
    · unfold AtPost
      rw [if_pos C1.out]
      exact ⟨rfl, HBF.out⟩
  · rw [if_neg c1] at hp
    by_cases c2 : at_ ∈ (psS s).map (fun (n : Nat) => (n : Int))
    · rw [if_pos c2] at hp
      obtain ⟨X, i, rfl, hXs, hXf, hXp, hXn, hXd, hXi, hMP⟩ := hp
      have hnp : X.np ≤ 512 := by rw [hXn]; have h1 := gM_le t; have h2 := (cnB_ok (by simpa using c1)).2; omega
      have ho : XOk X.np t 0 := ⟨(cnB_ok (by simpa using c1)).1, by rw [hXn]; omega, (cnB_ok (by simpa using c1)).2, HSZ.out⟩
      have hok := ok_of hXs hXp HS.out
      have hsg : ∀ k ∈ ([.hold t 0] : List Kt), SgT k := fun k hk => by
        rw [List.mem_singleton] at hk
        subst hk
        exact ok_sg t (cnB_ok (by simpa using c1)).1
      obtain ⟨hil, hie⟩ := hXi
      obtain ⟨r, hr⟩ := on_total X.of X.takes (min (max fuel 0) 20000).toNat _ [.hold t 0] i (List.replicate X.np (-1, -1)) hsg (Nat.lt_succ_self _)
      have HRUN := hide (run_any hok hMP hXd ho hnp i (by omega) (by show (min (max fuel 0) 20000).toNat ≤ 20000; omega) r hr)
      have HANS := hide (fun (W : World) (h : RsAt X W0 [] r W) => answer_any hok hnp r h i hil)
      have HON := hide (show On (ofG (psS s)) (tkG s (psS s) fold) (min (max fuel 0) 20000).toNat [.hold t 0] i (List.replicate (gM t) (-1, -1)) r by
        have := hr
        rw [of_eq, tk_eq, hXs, hXp, hXf, hXn] at this
        exact this)
      have HOF := hide (show X.of = ofG (psS s) by rw [of_eq, hXp])
      have HI := hide (show ∃ h : i < (psS s).length, (((psS s)[i] : Nat) : Int) = at_ from ⟨by rw [← hXp]; exact hil, by simp only [← hXp]; exact hie⟩)
      have C1 := hide c1
      have C2 := hide c2
      clear hXs hXf hXp hXn hXd hMP hnp ho hok hsg hil hie hr c1 c2
      go_wp2_with fail
      refine HRUN.out.mono ?_
      rintro e w2 hp2
      obtain ⟨rfl, hrs⟩ := rn_rs hp2
      have HB1 := hide (rs_bl hrs)
      have HAN := hide (HANS.out w2 hrs)
      clear hp2 hrs HRUN HANS
      obtain ⟨ov, hov⟩ : ∃ o, outV r = o := ⟨_, rfl⟩
      rw [hov] at HAN
      (try rw [hov])
      clear hov
      go_wp2_with fail
      refine HAN.out.mono ?_
      rintro e w3 hp3
      cases r with
      | dry =>
        obtain ⟨rfl, hb3⟩ := hp3
        rw [show zM = .agg #[.int .i64 0, .int .i64 0, .slice none 0 0] from rfl]
        have hbb := bl_trans HB1.out hb3
        have hcm3 := HCM.out.bl hbb
        have b0 : w3.cell? ⟨B, 0, none⟩ = some (.int .i64 0) := hcm3.c 0 _ rfl
        have b1 : w3.cell? ⟨B, 1, none⟩ = some (.int .i64 0) := hcm3.c 1 _ rfl
        have b2 : w3.cell? ⟨B, 2, none⟩ = some (.slice none 0 0) := hcm3.c 2 _ rfl
        have g0 := hcm3.f 0
        have g1 := hcm3.f 1
        have g2 := hcm3.f 2
        have HBF := hide (show Below w.heap.size w (((w3.setCell ⟨B, 0, none⟩ (.int .i64 0)).setCell ⟨B, 1, none⟩ (.int .i64 0)).setCell ⟨B, 2, none⟩ (.slice none 0 0)) from bl_set (bl_set (bl_set (bl_trans HB0.out hbb) HBE.out _) HBE.out _) HBE.out _)
        clear hcm3 hbb hb3
        go_wp2
        refine bodyPost_ret (v := .tuple #[zM, .int .i64 0, .bool false, .int .i64 9]) ?_ rfl ?_
        · rw [results_cell4 rfl]
          (try unfold zM)
          go_simp
        · unfold AtPost
          rw [if_neg C1.out, if_pos C2.out]
          exact ⟨i, _, HI.out, HON.out, ⟨rfl, HBF.out⟩⟩
      | fail f' =>
        obtain ⟨rfl, hb3⟩ := hp3
        rw [show zM = .agg #[.int .i64 0, .int .i64 0, .slice none 0 0] from rfl]
        have hbb := bl_trans HB1.out hb3
        have hcm3 := HCM.out.bl hbb
        have b0 : w3.cell? ⟨B, 0, none⟩ = some (.int .i64 0) := hcm3.c 0 _ rfl
        have b1 : w3.cell? ⟨B, 1, none⟩ = some (.int .i64 0) := hcm3.c 1 _ rfl
        have b2 : w3.cell? ⟨B, 2, none⟩ = some (.slice none 0 0) := hcm3.c 2 _ rfl
        have g0 := hcm3.f 0
        have g1 := hcm3.f 1
        have g2 := hcm3.f 2
        have HBF := hide (show Below w.heap.size w (((w3.setCell ⟨B, 0, none⟩ (.int .i64 0)).setCell ⟨B, 1, none⟩ (.int .i64 0)).setCell ⟨B, 2, none⟩ (.slice none 0 0)) from bl_set (bl_set (bl_set (bl_trans HB0.out hbb) HBE.out _) HBE.out _) HBE.out _)
        clear hcm3 hbb hb3
        go_wp2
        refine bodyPost_ret (v := .tuple #[zM, .int .i64 ((f' : Nat) : Int), .bool false, .int .i64 0]) ?_ rfl ?_
        · rw [results_cell4 rfl]
          (try unfold zM)
          go_simp
        · unfold AtPost
          rw [if_neg C1.out, if_pos C2.out]
          exact ⟨i, _, HI.out, HON.out, ⟨rfl, HBF.out⟩⟩
      | found j p f' =>
        obtain ⟨v', rfl, hb3, ho3⟩ := hp3
        obtain ⟨A3, c3, rfl⟩ := own_slice ho3
        rw [HOF.out]
        have hbb := bl_trans HB1.out hb3
        have hcm3 := HCM.out.bl hbb
        have b0 : w3.cell? ⟨B, 0, none⟩ = some (.int .i64 0) := hcm3.c 0 _ rfl
        have b1 : w3.cell? ⟨B, 1, none⟩ = some (.int .i64 0) := hcm3.c 1 _ rfl
        have b2 : w3.cell? ⟨B, 2, none⟩ = some (.slice none 0 0) := hcm3.c 2 _ rfl
        have g0 := hcm3.f 0
        have g1 := hcm3.f 1
        have g2 := hcm3.f 2
        have HBF := hide (show Below w.heap.size w (((w3.setCell ⟨B, 0, none⟩ (.int .i64 (ofG (psS s) i))).setCell ⟨B, 1, none⟩ (.int .i64 (ofG (psS s) j))).setCell ⟨B, 2, none⟩ (.slice A3 p.length c3)) from bl_set (bl_set (bl_set (bl_trans HB0.out hbb) HBE.out _) HBE.out _) HBE.out _)
        have hs1 : B < W0.heap.size := HCM.out.s
        have hs2 := HB1.out.size
        have hs3 := HB0.out.size
        have hfin := row_kept (row_kept (row_kept ho3 (gr_set w3 B 0 (.int .i64 (ofG (psS s) i))) (fun k hk e => by injection hk with hk; have := (World.ownsRow.lt ho3 _ e).1; omega)) (gr_set _ B 1 (.int .i64 (ofG (psS s) j))) (fun k hk e => by injection hk with hk; have := (World.ownsRow.lt ho3 _ e).1; omega)) (gr_set _ B 2 (.slice A3 p.length c3)) (fun k hk e => by injection hk with hk; have := (World.ownsRow.lt ho3 _ e).1; omega)
        have HFIN := hide (own_base hfin (show w.heap.size ≤ _ by omega))
        have FIN : AnPost (ofG (psS s)) i (.found j p f') w (.returned (.tuple #[.agg #[.int .i64 (ofG (psS s) i), .int .i64 (ofG (psS s) j), .slice A3 p.length c3], .int .i64 ((f' : Nat) : Int), .bool true, .int .i64 0])) (((w3.setCell ⟨B, 0, none⟩ (.int .i64 (ofG (psS s) i))).setCell ⟨B, 1, none⟩ (.int .i64 (ofG (psS s) j))).setCell ⟨B, 2, none⟩ (.slice A3 p.length c3)) := ⟨_, rfl, HBF.out, HFIN.out⟩
        clear ho3 hfin
        clear hcm3 hbb hb3
        go_wp2
        refine bodyPost_ret (v := .tuple #[.agg #[.int .i64 (ofG (psS s) i), .int .i64 (ofG (psS s) j), .slice A3 p.length c3], .int .i64 ((f' : Nat) : Int), .bool true, .int .i64 0]) ?_ rfl ?_
        · rw [results_cell4 rfl]
          (try unfold zM)
          go_simp
        · unfold AtPost
          rw [if_neg C1.out, if_pos C2.out]
          exact ⟨i, _, HI.out, HON.out, FIN⟩
    · rw [if_neg c2] at hp
      obtain ⟨rfl, hb1⟩ := hp
      have hcm1 := HCM.out.bl hb1
      have b0 : w1.cell? ⟨B, 0, none⟩ = some (.int .i64 0) := hcm1.c 0 _ rfl
      have b1 : w1.cell? ⟨B, 1, none⟩ = some (.int .i64 0) := hcm1.c 1 _ rfl
      have b2 : w1.cell? ⟨B, 2, none⟩ = some (.slice none 0 0) := hcm1.c 2 _ rfl
      have g0 := hcm1.f 0
      have g1 := hcm1.f 1
      have g2 := hcm1.f 2
      have C1 := hide c1
      have C2 := hide c2
      have HBF := hide (show Below w.heap.size w (((w1.setCell ⟨B, 0, none⟩ (.int .i64 0)).setCell ⟨B, 1, none⟩ (.int .i64 0)).setCell ⟨B, 2, none⟩ (.slice none 0 0)) from bl_set (bl_set (bl_set (bl_trans HB0.out hb1) HBE.out _) HBE.out _) HBE.out _)
      clear hcm1 hb1 c1 c2
      go_wp2
      refine bodyPost_ret (v := .tuple #[zM, .int .i64 0, .bool false, .int .i64 3]) ?_ rfl ?_
      · rw [results_cell4 rfl]
        unfold zM
        go_simp
      · unfold AtPost
        rw [if_neg C1.out, if_neg C2.out]
        exact ⟨rfl, HBF.out⟩
end Go.Proofs.YtcnliipkfccohabGreat
end
section
namespace Go.Proofs.YtcnliipkfccohabGreat
open Go.ChangeShapes Go.WideShapes Go.ChangeAt Go.RowKit
open SetM SpanM
attribute [local go_sem ↓] Go.wp_at_zero Go.wp_at_succ
set_option maxRecDepth 100000
set_option linter.unusedVariables false
attribute [local go_sem] later_cell later_frozen
theorem results_tmp2 {fn : Func} {a b : Tmp} (h : fn.results = #[.tmp a, .tmp b]) (tmps : Array Value) (P : Program) (w : World) :
    (results fn tmps).run P w = .ok (.tuple #[tmps.getD a undef, tmps.getD b undef]) w := by
  simp only [results, h]
  simp
inductive Fd (Q : Nat → Nat → Ro → Prop) (N : Nat) : Nat → Nat → Nat → Ro → Prop
  | none (f i) (h : N ≤ i) : Fd Q N f i 0 (.fail f)
  | hit (f i r) (h : i < N) (hq : Q f i r) (hr : ∀ f', r ≠ .fail f') : Fd Q N f i i r
  | miss (f f' i st r) (h : i < N) (hq : Q f i (.fail f')) (h2 : Fd Q N f' (i + 1) st r) : Fd Q N f i st r
theorem fd_total {Q : Nat → Nat → Ro → Prop} {N : Nat} (hQ : ∀ f i, ∃ r, Q f i r) : ∀ (n f i : Nat), N ≤ i + n → ∃ st r, Fd Q N f i st r
  | 0, f, i, h => ⟨0, _, .none f i h⟩
  | n + 1, f, i, h => by
    by_cases hi : i < N
    · obtain ⟨r, hr⟩ := hQ f i
      cases r with
      | fail f' =>
        obtain ⟨st, r, h2⟩ := fd_total (N := N) hQ n f' (i + 1) (by omega)
        exact ⟨st, r, .miss f f' i st r hi hr h2⟩
      | found j p f' => exact ⟨i, _, .hit f i _ hi hr (fun _ e => by cases e)⟩
      | dry => exact ⟨i, _, .hit f i _ hi hr (fun _ e => by cases e)⟩
    · exact ⟨0, _, .none f i (by omega)⟩
theorem fd_det {Q : Nat → Nat → Ro → Prop} {N : Nat} (hQ : ∀ f i r r', Q f i r → Q f i r' → r = r') {f i st r} (h : Fd Q N f i st r) : ∀ {st' r'}, Fd Q N f i st' r' → st = st' ∧ r = r' := by
  induction h with
  | none f i h =>
    intro st' r' h'
    cases h' with
    | none => exact ⟨rfl, rfl⟩
    | hit _ _ _ h2 => exact absurd h2 (by omega)
    | miss _ _ _ _ _ h2 => exact absurd h2 (by omega)
  | hit f i r h hq hr =>
    intro st' r' h'
    cases h' with
    | none _ _ h2 => exact absurd h (by omega)
    | hit _ _ _ _ hq' _ => exact ⟨rfl, hQ _ _ _ _ hq hq'⟩
    | miss _ f' _ _ _ _ hq' _ => exact absurd (hQ _ _ _ _ hq hq') (hr f')
  | miss f f' i st r h hq h2 ih =>
    intro st' r' h'
    cases h' with
    | none _ _ h3 => exact absurd h (by omega)
    | hit _ _ _ _ hq' hr' => exact absurd (hQ _ _ _ _ hq' hq) (hr' f')
    | miss _ f2 _ _ _ _ hq' h4 =>
      have e := hQ _ _ _ _ hq hq'
      injection e with e
      subst e
      exact ih h4
theorem fd_left {Q : Nat → Nat → Ro → Prop} {N : Nat} (hQ : ∀ f i r, Q f i r → r.left ≤ f) {f i st r} (h : Fd Q N f i st r) : r.left ≤ f := by
  induction h with
  | none f i h => exact Nat.le_refl _
  | hit f i r h hq hr => exact hQ _ _ _ hq
  | miss f f' i st r h hq h2 ih => exact Nat.le_trans ih (hQ _ _ _ hq)
theorem fd_lt {Q : Nat → Nat → Ro → Prop} {N : Nat} {f i st r} (h : Fd Q N f i st r) : (∀ f', r ≠ .fail f') → i ≤ st ∧ st < N := by
  induction h with
  | none f i h => exact fun hr => absurd rfl (hr f)
  | hit f i r h hq hr => exact fun _ => ⟨Nat.le_refl _, h⟩
  | miss f f' i st r h hq h2 ih => exact fun hr => ⟨by have := (ih hr).1; omega, (ih hr).2⟩
theorem fd_step {Q : Nat → Nat → Ro → Prop} {N : Nat} {f i st r} (h : Fd Q N f i st r) (hi : i < N) : (st = i ∧ Q f i r ∧ ∀ f', r ≠ .fail f') ∨ ∃ f', Q f i (.fail f') ∧ Fd Q N f' (i + 1) st r := by
  cases h with
  | none _ _ h => exact absurd hi (by omega)
  | hit _ _ _ h hq hr => exact .inl ⟨rfl, hq, hr⟩
  | miss _ f' _ _ _ h hq h2 => exact .inr ⟨f', hq, h2⟩
theorem fd_end {Q : Nat → Nat → Ro → Prop} {N : Nat} {f i st r} (h : Fd Q N f i st r) (hi : N ≤ i) : st = 0 ∧ r = .fail f := by
  cases h with
  | none _ _ h => exact ⟨rfl, rfl⟩
  | hit _ _ _ h => exact absurd h (by omega)
  | miss _ _ _ _ _ h => exact absurd h (by omega)
def QG (of : Nat → Int) (tk : Rt → Nat → Option Nat) (t : Rt) (np f i : Nat) (r : Ro) : Prop := On of tk f [.hold t 0] i (List.replicate np (-1, -1)) r
section
variable {X : Mx} {R : World} {S : List Nat} {w w' : World}
def FnPost (X : Mx) (R : World) (S : List Nat) (st : Nat) (r : Ro) (e : Ending) (w' : World) : Prop := e = .returned (.tuple #[.int .i64 ((st : Nat) : Int), .int .i64 (outV r)]) ∧ RsAt X R S r w'
set_option maxHeartbeats 2000000 in
theorem find_any {s0 : Ms} (hX : X.Ok) (h : MP X R S s0 w) {x : Rt} (hn : NdAt X.W X.rb x 0) (ho : XOk X.np x 0) (hnp : X.np ≤ 512) (i0 : Nat) (hi : i0 ≤ X.ps.length) (hf : s0.f ≤ 20000) (st : Nat) (r : Ro) (hr : Fd (QG X.of X.takes x X.np) X.ps.length s0.f i0 st r) :
    Calls Tryz.prog 19 #[.pointer (some ⟨X.m, 0, none⟩), .int .i64 ((i0 : Nat) : Int)] w (FnPost X R S st r) := by
  have HX := hide hX
  have HN := hide hn
  have HO := hide ho
  have HNP := hide hnp
  have HI := hide hi
  have HLEN := hide (show X.ps.length ≤ 1000 from hX.len)
  have HMP0 := hide h
  have HFD0 := hide hr
  have HF0 := hide hf
  clear hX hn ho hnp hi h hr hf
  go_enter Tryz.func19, Tryz.ntmps19
  go_wp2_with fail
  go_loopw [1] (fun v wr => ∃ k : Nat, v = .int .i64 ((k : Nat) : Int) ∧ k ≤ X.ps.length ∧ ∃ s : Ms, s.f ≤ 20000 ∧ Hid (MP X R S s wr) ∧ Hid (Fd (QG X.of X.takes x X.np) X.ps.length s.f k st r)) (fun v _ => X.ps.length - (intOf v).toNat)
  case atStart => exact ⟨i0, rfl, HI.out, s0, HF0.out, HMP0, HFD0⟩
  case round =>
    obtain ⟨k, rfl, hk, s, hsf, HMP, HFD⟩ := hrel
    clear HMP0 HFD0 HF0 HI
    obtain ⟨_, _, _, hc⟩ := mp_cs HMP.out
    have y1 : wr.cell? ⟨X.m, 1, none⟩ = some (.slice (some ⟨X.plb, 0, none⟩) X.ps.length X.pc) := hc.c 1 _ rfl
    have lt1 := hc.s
    have h1000 := HLEN.out
    by_cases hlt : k < X.ps.length
    · have d1 : decide ((k : Int) < (X.ps.length : Int)) = true := decide_eq_true (by omega)
      have d1' : decide (k < X.ps.length) = true := decide_eq_true hlt
      have e5 : IntKind.i64.wrap ((k : Int) + 1) = (k : Int) + 1 := by rw [IntKind.wrap_i64]; omega
      have HK := hide hlt
      have HSF := hide hsf
      clear hc hlt hk hsf h1000
      have hst := fd_step HFD.out HK.out
      clear HFD
      rcases hst with ⟨hst, hq, hr⟩ | ⟨f', hq, h2⟩
      · have HST := hide hst
        clear hst
        have HRUN := hide (run_any HX.out HMP.out HN.out HO.out HNP.out k HK.out HSF.out r hq)
        have HR := hide hr
        clear hq hr
        go_wp2_with fail
        refine HRUN.out.mono ?_
        rintro e w2 hp2
        obtain ⟨rfl, hrs⟩ := rn_rs hp2
        have HRS := hide hrs
        clear hp2 hrs HRUN
        cases r with
        | fail f' => exact absurd rfl (HR.out f')
        | found j p f' =>
          rw [show outV (.found j p f') = 0 from rfl]
          have HFIN := hide (show FnPost X R S st (.found j p f') (.returned (.tuple #[.int .i64 ((k : Nat) : Int), .int .i64 0])) w2 by rw [HST.out]; exact ⟨rfl, HRS.out⟩)
          go_wp2_with fail
          refine bodyPost_ret (v := .tuple #[.int .i64 ((k : Nat) : Int), .int .i64 0]) ?_ rfl HFIN.out
          rw [results_tmp2 rfl]
          go_simp
        | dry =>
          rw [show outV .dry = 2 from rfl]
          have HFIN := hide (show FnPost X R S st .dry (.returned (.tuple #[.int .i64 ((k : Nat) : Int), .int .i64 2])) w2 by rw [HST.out]; exact ⟨rfl, HRS.out⟩)
          go_wp2_with fail
          refine bodyPost_ret (v := .tuple #[.int .i64 ((k : Nat) : Int), .int .i64 2]) ?_ rfl HFIN.out
          rw [results_tmp2 rfl]
          go_simp
      · have HRUN := hide (run_any HX.out HMP.out HN.out HO.out HNP.out k HK.out HSF.out (.fail f') hq)
        have HF2 := hide (show f' ≤ 20000 from Nat.le_trans (on_left X.of X.takes hq) HSF.out)
        have H2 := hide h2
        clear hq h2
        go_wp2_with fail
        refine HRUN.out.mono ?_
        rintro e w2 ⟨rfl, s2, hm2, rfl⟩
        have HM2 := hide hm2
        have HK1 := hide (show k + 1 ≤ X.ps.length from HK.out)
        clear hm2 HRUN
        go_wp2
        refine ⟨?_, by first | (simp [intOf]; done) | (have := HK1.out; simp [intOf]; omega)⟩
        first
          | exact ⟨k + 1, by go_num, HK1.out, s2, HF2.out, HM2, H2⟩
          | ((repeat apply Exists.intro); exact ⟨⟨k + 1, by go_num, HK1.out, s2, HF2.out, HM2, H2⟩, rfl⟩)
    · obtain rfl : k = X.ps.length := by omega
      have d1 : decide ((X.ps.length : Int) < (X.ps.length : Int)) = false := by simp
      have d1' : decide (X.ps.length < X.ps.length) = false := by simp
      have HMP := HMP
      have HFIN := hide (show FnPost X R S st r (.returned (.tuple #[.int .i64 0, .int .i64 1])) wr by
        obtain ⟨rfl, rfl⟩ := fd_end HFD.out (Nat.le_refl _)
        exact ⟨rfl, s, HMP.out, rfl⟩)
      clear hc hlt hk hsf h1000 HMP HFD
      go_wp2_with fail
      refine bodyPost_ret (v := .tuple #[.int .i64 0, .int .i64 1]) ?_ rfl HFIN.out
      rw [results_tmp2 rfl]
      go_simp
end
end Go.Proofs.YtcnliipkfccohabGreat
end
section
namespace Go.Proofs.YtcnliipkfccohabGreat
open Go.ChangeShapes Go.WideShapes Go.ChangeAt Go.RowKit
open SetM SpanM
attribute [local go_sem ↓] Go.wp_at_zero Go.wp_at_succ
set_option maxRecDepth 100000
set_option linter.unusedVariables false
attribute [local go_sem] later_cell later_frozen
theorem fd_st {Q : Nat → Nat → Ro → Prop} {N : Nat} {f i st r} (h : Fd Q N f i st r) (hN : 0 < N) : st < N := by
  induction h with
  | none f i h => exact hN
  | hit f i r h hq hr => exact h
  | miss f f' i st r h hq h2 ih => exact ih
def FiPost (t : Rt) (fold : Bool) (s : ByteArray) (at_ fuel : Int) (w : World) (e : Ending) (w' : World) : Prop :=
  if cnB t 16 512 = false then e = .returned (.tuple #[zM, .int .i64 0, .bool false, .int .i64 10]) ∧ Below w.heap.size w w'
  else if at_ ∈ (psS s).map (fun (n : Nat) => (n : Int)) then ∃ (i st : Nat) (r : Ro), (∃ h : i < (psS s).length, (((psS s)[i] : Nat) : Int) = at_) ∧
    Fd (QG (ofG (psS s)) (tkG s (psS s) fold) t (gM t)) (psS s).length (min (max fuel 0) 20000).toNat i st r ∧ AnPost (ofG (psS s)) st r w e w'
  else e = .returned (.tuple #[zM, .int .i64 0, .bool false, .int .i64 3]) ∧ Below w.heap.size w w'
set_option maxHeartbeats 4000000 in
theorem findX_any {w : World} {t : Rt} (h : RxAt w t) (hsz : sM t ≤ 1000) (fold : Bool) (s : ByteArray) (hs : s.size ≤ 999) (at_ fuel : Int) :
    Calls Tryz.prog 8 #[t.v, .bool fold, .string s, .int .i64 at_, .int .i64 fuel] w (FiPost t fold s at_ fuel w) := by
  obtain ⟨tA, tc, hkv⟩ := ksat_len h.ks
  obtain ⟨rA, rc, hrv⟩ := rwat_len h.rows
  have hv : t.v = .agg #[.int .i64 t.k, .string t.ch, .bool t.nt, .slice rA t.rows.length rc, .int .i64 t.mi, .int .i64 t.ma, .bool t.lz, .slice tA t.kids.length tc] := by unfold Rt.v Rt.cs; rw [hkv, hrv]
  have HPR := hide (fun (W : World) (hb : Below w.heap.size w W) => prepare_any (rx_below h hb) hsz fold s hs at_ fuel)
  rw [hv] at HPR ⊢
  have HSZ := hide hsz
  have HS := hide hs
  have hb0 : Below w.heap.size w ((w.alloc (.cells #[.int .i64 t.k, .string t.ch, .bool t.nt, .slice rA t.rows.length rc, .int .i64 t.mi, .int .i64 t.ma, .bool t.lz, .slice tA t.kids.length tc] 25)).alloc (.cells #[.int .i64 0, .int .i64 0, .slice none 0 0] 36)) := bl_alloc (bl_alloc (bl_refl w) _) _
  have hcm0 : Cm ((w.alloc (.cells #[.int .i64 t.k, .string t.ch, .bool t.nt, .slice rA t.rows.length rc, .int .i64 t.mi, .int .i64 t.ma, .bool t.lz, .slice tA t.kids.length tc] 25)).alloc (.cells #[.int .i64 0, .int .i64 0, .slice none 0 0] 36)) (w.heap.size + 1) [.int .i64 0, .int .i64 0, .slice none 0 0] := cm_new _ _ (by simp)
  have HB0 := hide hb0
  have HCM := hide hcm0
  clear h hsz hkv hrv hv hs hb0 hcm0
  go_enter Tryz.func8, Tryz.ntmps8
  go_wp2_with fail
  refine (HPR.out _ HB0.out).mono ?_
  rintro e w1 hp
  obtain ⟨W0, hW0⟩ : ∃ W, ((w.alloc (.cells #[.int .i64 t.k, .string t.ch, .bool t.nt, .slice rA t.rows.length rc, .int .i64 t.mi, .int .i64 t.ma, .bool t.lz, .slice tA t.kids.length tc] 25)).alloc (.cells #[.int .i64 0, .int .i64 0, .slice none 0 0] 36)) = W := ⟨_, rfl⟩
  rw [hW0] at hp HB0 HCM
  clear hW0
  obtain ⟨B, hB⟩ : ∃ b, w.heap.size + 1 = b := ⟨_, rfl⟩
  rw [hB] at HCM
  have HBE := hide (show w.heap.size ≤ B by omega)
  (try rw [hB])
  clear hB
  unfold PrPost at hp
  by_cases c1 : cnB t 16 512 = false
  · rw [if_pos c1] at hp
    obtain ⟨rfl, hb1⟩ := hp
    have hcm1 := HCM.out.bl hb1
    have b0 : w1.cell? ⟨B, 0, none⟩ = some (.int .i64 0) := hcm1.c 0 _ rfl
    have b1 : w1.cell? ⟨B, 1, none⟩ = some (.int .i64 0) := hcm1.c 1 _ rfl
    have b2 : w1.cell? ⟨B, 2, none⟩ = some (.slice none 0 0) := hcm1.c 2 _ rfl
    have g0 := hcm1.f 0
    have g1 := hcm1.f 1
    have g2 := hcm1.f 2
    have C1 := hide c1
    have HBF := hide (show Below w.heap.size w (((w1.setCell ⟨B, 0, none⟩ (.int .i64 0)).setCell ⟨B, 1, none⟩ (.int .i64 0)).setCell ⟨B, 2, none⟩ (.slice none 0 0)) from bl_set (bl_set (bl_set (bl_trans HB0.out hb1) HBE.out _) HBE.out _) HBE.out _)
    clear hcm1 hb1 c1
    go_wp2
    refine bodyPost_ret (v := .tuple #[zM, .int .i64 0, .bool false, .int .i64 10]) ?_ rfl ?_
    · rw [results_cell4 rfl]
      unfold zM
      go_simp
    · unfold FiPost
      rw [if_pos C1.out]
      exact ⟨rfl, HBF.out⟩
  · rw [if_neg c1] at hp
    by_cases c2 : at_ ∈ (psS s).map (fun (n : Nat) => (n : Int))
    · rw [if_pos c2] at hp
      obtain ⟨X, i, rfl, hXs, hXf, hXp, hXn, hXd, hXi, hMP⟩ := hp
      have hnp : X.np ≤ 512 := by rw [hXn]; have h1 := gM_le t; have h2 := (cnB_ok (by simpa using c1)).2; omega
      have ho : XOk X.np t 0 := ⟨(cnB_ok (by simpa using c1)).1, by rw [hXn]; omega, (cnB_ok (by simpa using c1)).2, HSZ.out⟩
      have hok := ok_of hXs hXp HS.out
      have hsg : ∀ k ∈ ([.hold t 0] : List Kt), SgT k := fun k hk => by
        rw [List.mem_singleton] at hk
        subst hk
        exact ok_sg t (cnB_ok (by simpa using c1)).1
      obtain ⟨hil, hie⟩ := hXi
      obtain ⟨st, r, hr⟩ := fd_total (Q := QG X.of X.takes t X.np) (N := X.ps.length) (fun f j => on_total X.of X.takes f _ [.hold t 0] j (List.replicate X.np (-1, -1)) hsg (Nat.lt_succ_self _)) X.ps.length (min (max fuel 0) 20000).toNat i (by omega)
      have hst := fd_st hr hok.pos
      have HRUN := hide (find_any hok hMP hXd ho hnp i (by omega) (by show (min (max fuel 0) 20000).toNat ≤ 20000; omega) st r hr)
      have HANS := hide (fun (W : World) (h : RsAt X W0 [] r W) => answer_any hok hnp r h st hst)
      have HON := hide (show Fd (QG (ofG (psS s)) (tkG s (psS s) fold) t (gM t)) (psS s).length (min (max fuel 0) 20000).toNat i st r by
        have := hr
        rw [of_eq, tk_eq, hXs, hXp, hXf, hXn] at this
        exact this)
      have HOF := hide (show X.of = ofG (psS s) by rw [of_eq, hXp])
      have HI := hide (show ∃ h : i < (psS s).length, (((psS s)[i] : Nat) : Int) = at_ from ⟨by rw [← hXp]; exact hil, by simp only [← hXp]; exact hie⟩)
      have C1 := hide c1
      have C2 := hide c2
      clear hXs hXf hXp hXn hXd hMP hnp ho hok hsg hil hie hr hst c1 c2
      go_wp2_with fail
      refine HRUN.out.mono ?_
      rintro e w2 hp2
      obtain ⟨rfl, hrs⟩ := hp2
      have HB1 := hide (rs_bl hrs)
      have HAN := hide (HANS.out w2 hrs)
      clear hrs HRUN HANS
      obtain ⟨ov, hov⟩ : ∃ o, outV r = o := ⟨_, rfl⟩
      rw [hov] at HAN
      (try rw [hov])
      clear hov
      go_wp2_with fail
      refine HAN.out.mono ?_
      rintro e w3 hp3
      cases r with
      | dry =>
        obtain ⟨rfl, hb3⟩ := hp3
        rw [show zM = .agg #[.int .i64 0, .int .i64 0, .slice none 0 0] from rfl]
        have hbb := bl_trans HB1.out hb3
        have hcm3 := HCM.out.bl hbb
        have b0 : w3.cell? ⟨B, 0, none⟩ = some (.int .i64 0) := hcm3.c 0 _ rfl
        have b1 : w3.cell? ⟨B, 1, none⟩ = some (.int .i64 0) := hcm3.c 1 _ rfl
        have b2 : w3.cell? ⟨B, 2, none⟩ = some (.slice none 0 0) := hcm3.c 2 _ rfl
        have g0 := hcm3.f 0
        have g1 := hcm3.f 1
        have g2 := hcm3.f 2
        have HBF := hide (show Below w.heap.size w (((w3.setCell ⟨B, 0, none⟩ (.int .i64 0)).setCell ⟨B, 1, none⟩ (.int .i64 0)).setCell ⟨B, 2, none⟩ (.slice none 0 0)) from bl_set (bl_set (bl_set (bl_trans HB0.out hbb) HBE.out _) HBE.out _) HBE.out _)
        clear hcm3 hbb hb3
        go_wp2
        refine bodyPost_ret (v := .tuple #[zM, .int .i64 0, .bool false, .int .i64 9]) ?_ rfl ?_
        · rw [results_cell4 rfl]
          (try unfold zM)
          go_simp
        · unfold FiPost
          rw [if_neg C1.out, if_pos C2.out]
          exact ⟨i, st, _, HI.out, HON.out, ⟨rfl, HBF.out⟩⟩
      | fail f' =>
        obtain ⟨rfl, hb3⟩ := hp3
        rw [show zM = .agg #[.int .i64 0, .int .i64 0, .slice none 0 0] from rfl]
        have hbb := bl_trans HB1.out hb3
        have hcm3 := HCM.out.bl hbb
        have b0 : w3.cell? ⟨B, 0, none⟩ = some (.int .i64 0) := hcm3.c 0 _ rfl
        have b1 : w3.cell? ⟨B, 1, none⟩ = some (.int .i64 0) := hcm3.c 1 _ rfl
        have b2 : w3.cell? ⟨B, 2, none⟩ = some (.slice none 0 0) := hcm3.c 2 _ rfl
        have g0 := hcm3.f 0
        have g1 := hcm3.f 1
        have g2 := hcm3.f 2
        have HBF := hide (show Below w.heap.size w (((w3.setCell ⟨B, 0, none⟩ (.int .i64 0)).setCell ⟨B, 1, none⟩ (.int .i64 0)).setCell ⟨B, 2, none⟩ (.slice none 0 0)) from bl_set (bl_set (bl_set (bl_trans HB0.out hbb) HBE.out _) HBE.out _) HBE.out _)
        clear hcm3 hbb hb3
        go_wp2
        refine bodyPost_ret (v := .tuple #[zM, .int .i64 ((f' : Nat) : Int), .bool false, .int .i64 0]) ?_ rfl ?_
        · rw [results_cell4 rfl]
          (try unfold zM)
          go_simp
        · unfold FiPost
          rw [if_neg C1.out, if_pos C2.out]
          exact ⟨i, st, _, HI.out, HON.out, ⟨rfl, HBF.out⟩⟩
      | found j p f' =>
        obtain ⟨v', rfl, hb3, ho3⟩ := hp3
        obtain ⟨A3, c3, rfl⟩ := own_slice ho3
        rw [HOF.out]
        have hbb := bl_trans HB1.out hb3
        have hcm3 := HCM.out.bl hbb
        have b0 : w3.cell? ⟨B, 0, none⟩ = some (.int .i64 0) := hcm3.c 0 _ rfl
        have b1 : w3.cell? ⟨B, 1, none⟩ = some (.int .i64 0) := hcm3.c 1 _ rfl
        have b2 : w3.cell? ⟨B, 2, none⟩ = some (.slice none 0 0) := hcm3.c 2 _ rfl
        have g0 := hcm3.f 0
        have g1 := hcm3.f 1
        have g2 := hcm3.f 2
        have HBF := hide (show Below w.heap.size w (((w3.setCell ⟨B, 0, none⟩ (.int .i64 (ofG (psS s) st))).setCell ⟨B, 1, none⟩ (.int .i64 (ofG (psS s) j))).setCell ⟨B, 2, none⟩ (.slice A3 p.length c3)) from bl_set (bl_set (bl_set (bl_trans HB0.out hbb) HBE.out _) HBE.out _) HBE.out _)
        have hs1 : B < W0.heap.size := HCM.out.s
        have hs2 := HB1.out.size
        have hs3 := HB0.out.size
        have hfin := row_kept (row_kept (row_kept ho3 (gr_set w3 B 0 (.int .i64 (ofG (psS s) st))) (fun k hk e => by injection hk with hk; have := (World.ownsRow.lt ho3 _ e).1; omega)) (gr_set _ B 1 (.int .i64 (ofG (psS s) j))) (fun k hk e => by injection hk with hk; have := (World.ownsRow.lt ho3 _ e).1; omega)) (gr_set _ B 2 (.slice A3 p.length c3)) (fun k hk e => by injection hk with hk; have := (World.ownsRow.lt ho3 _ e).1; omega)
        have HFIN := hide (own_base hfin (show w.heap.size ≤ _ by omega))
        have FIN : AnPost (ofG (psS s)) st (.found j p f') w (.returned (.tuple #[.agg #[.int .i64 (ofG (psS s) st), .int .i64 (ofG (psS s) j), .slice A3 p.length c3], .int .i64 ((f' : Nat) : Int), .bool true, .int .i64 0])) (((w3.setCell ⟨B, 0, none⟩ (.int .i64 (ofG (psS s) st))).setCell ⟨B, 1, none⟩ (.int .i64 (ofG (psS s) j))).setCell ⟨B, 2, none⟩ (.slice A3 p.length c3)) := ⟨_, rfl, HBF.out, HFIN.out⟩
        clear ho3 hfin
        clear hcm3 hbb hb3
        go_wp2
        refine bodyPost_ret (v := .tuple #[.agg #[.int .i64 (ofG (psS s) st), .int .i64 (ofG (psS s) j), .slice A3 p.length c3], .int .i64 ((f' : Nat) : Int), .bool true, .int .i64 0]) ?_ rfl ?_
        · rw [results_cell4 rfl]
          (try unfold zM)
          go_simp
        · unfold FiPost
          rw [if_neg C1.out, if_pos C2.out]
          exact ⟨i, st, _, HI.out, HON.out, FIN⟩
    · rw [if_neg c2] at hp
      obtain ⟨rfl, hb1⟩ := hp
      have hcm1 := HCM.out.bl hb1
      have b0 : w1.cell? ⟨B, 0, none⟩ = some (.int .i64 0) := hcm1.c 0 _ rfl
      have b1 : w1.cell? ⟨B, 1, none⟩ = some (.int .i64 0) := hcm1.c 1 _ rfl
      have b2 : w1.cell? ⟨B, 2, none⟩ = some (.slice none 0 0) := hcm1.c 2 _ rfl
      have g0 := hcm1.f 0
      have g1 := hcm1.f 1
      have g2 := hcm1.f 2
      have C1 := hide c1
      have C2 := hide c2
      have HBF := hide (show Below w.heap.size w (((w1.setCell ⟨B, 0, none⟩ (.int .i64 0)).setCell ⟨B, 1, none⟩ (.int .i64 0)).setCell ⟨B, 2, none⟩ (.slice none 0 0)) from bl_set (bl_set (bl_set (bl_trans HB0.out hb1) HBE.out _) HBE.out _) HBE.out _)
      clear hcm1 hb1 c1 c2
      go_wp2
      refine bodyPost_ret (v := .tuple #[zM, .int .i64 0, .bool false, .int .i64 3]) ?_ rfl ?_
      · rw [results_cell4 rfl]
        unfold zM
        go_simp
      · unfold FiPost
        rw [if_neg C1.out, if_neg C2.out]
        exact ⟨rfl, HBF.out⟩
end Go.Proofs.YtcnliipkfccohabGreat
end
section
namespace Go.Proofs.YtcnliipkfccohabGreat
open Go.ChangeShapes Go.WideShapes Go.ChangeAt Go.RowKit
open SetM SpanM
attribute [local go_sem ↓] Go.wp_at_zero Go.wp_at_succ
set_option maxRecDepth 100000
set_option linter.unusedVariables false
def Ro.fr (i : Nat) : Ro → Prop
  | .found j _ _ => i ≤ j
  | _ => True
theorem Ro.fr_le {i i' : Nat} {r : Ro} (h : i ≤ i') (hr : r.fr i') : r.fr i := by
  cases r with
  | found j p f => exact Nat.le_trans h hr
  | fail f => trivial
  | dry => trivial
section
variable (offs : Nat → Int) (takes : Rt → Nat → Option Nat)
mutual
  /-- Places only rise. -/
  theorem on_ge : ∀ {f : Nat} {ks : List Kt} {i : Nat} {p : List (Int × Int)} {r : Ro}, On offs takes f ks i p r → r.fr i
    | _, _, _, _, _, .nil .. => Nat.le_refl _
    | _, _, _, _, _, .ended _ _ _ _ _ _ _ h => on_ge h
    | _, _, _, _, _, .stuck .. => trivial
    | _, _, _, _, _, .again _ _ _ _ _ _ _ _ _ _ h => onr_ge h
    | _, _, _, _, _, .seq _ _ _ _ _ _ _ _ h => on_ge h
    | _, _, _, _, _, .alt _ _ _ _ _ _ _ _ h => ona_ge h
    | _, _, _, _, _, .rep _ _ _ _ _ _ _ _ h => onr_ge h
    | _, _, _, _, _, .dry .. => trivial
    | _, _, _, _, _, .group _ _ _ _ _ _ _ _ _ _ h => on_ge h
    | _, _, _, _, _, .bare _ _ _ _ _ _ _ _ _ _ h => on_ge h
    | _, _, _, _, _, .no .. => trivial
    | _, _, _, _, _, .yes _ _ _ _ _ _ _ _ _ _ h => Ro.fr_le (Nat.le_add_right _ _) (on_ge h)
  theorem ona_ge : ∀ {f : Nat} {l : List Rt} {g : Nat} {ks : List Kt} {i : Nat} {p : List (Int × Int)} {r : Ro}, OnA offs takes f l g ks i p r → r.fr i
    | _, _, _, _, _, _, _, .nil .. => trivial
    | _, _, _, _, _, _, _, .done _ _ _ _ _ _ _ _ h _ => on_ge h
    | _, _, _, _, _, _, _, .next _ _ _ _ _ _ _ _ _ h h2 => ona_ge h2
  theorem onr_ge : ∀ {f : Nat} {x : Rt} {g many : Nat} {ks : List Kt} {i : Nat} {p : List (Int × Int)} {r : Ro}, OnR offs takes f x g many ks i p r → r.fr i
    | _, _, _, _, _, _, _, _, .must _ _ _ _ _ _ _ _ _ h => ont_ge h
    | _, _, _, _, _, _, _, _, .full _ _ _ _ _ _ _ _ _ _ h => on_ge h
    | _, _, _, _, _, _, _, _, .lazyD _ _ _ _ _ _ _ _ _ _ _ h _ => on_ge h
    | _, _, _, _, _, _, _, _, .lazyN _ _ _ _ _ _ _ _ _ _ _ _ h h3 => ont_ge h3
    | _, _, _, _, _, _, _, _, .moreD _ _ _ _ _ _ _ _ _ _ _ h _ => ont_ge h
    | _, _, _, _, _, _, _, _, .moreN _ _ _ _ _ _ _ _ _ _ _ _ h h3 => on_ge h3
  theorem ont_ge : ∀ {f : Nat} {x : Rt} {g many : Nat} {ks : List Kt} {i : Nat} {p : List (Int × Int)} {r : Ro}, OnT offs takes f x g many ks i p r → r.fr i
    | _, _, _, _, _, _, _, _, .mk _ _ _ _ _ _ _ _ _ _ h => on_ge h
end
end
theorem fd_ge {Q : Nat → Nat → Ro → Prop} {N : Nat} (hQ : ∀ f i r, Q f i r → r.fr i) {f i st r} (h : Fd Q N f i st r) : ∀ {j p f'}, r = .found j p f' → i ≤ st ∧ st ≤ j := by
  induction h with
  | none f i h => intro j p f' e; cases e
  | hit f i r h hq hr => intro j p f' e; subst e; exact ⟨Nat.le_refl _, hQ _ _ _ hq⟩
  | miss f f' i st r h hq h2 ih => intro j p f'' e; exact ⟨by have := (ih e).1; omega, (ih e).2⟩
abbrev Mt := (Int × Int) × List (Int × Int)
def nx (of : Nat → Int) (st j : Nat) : Nat := if of st = of j then j + 1 else j
inductive Al (of : Nat → Int) (Q : Nat → Nat → Ro → Prop) (N : Nat) : Nat → Nat → Option (List Mt × Nat) → Prop
  | stop (f i) (h : N ≤ i) : Al of Q N f i (some ([], f))
  | none (f i st f') (h : i < N) (hf : Fd Q N f i st (.fail f')) : Al of Q N f i (some ([], f'))
  | dry (f i st) (h : i < N) (hf : Fd Q N f i st .dry) : Al of Q N f i Option.none
  | more (f i st j p f' o) (h : i < N) (hf : Fd Q N f i st (.found j p f')) (h2 : Al of Q N f' (nx of st j) o) : Al of Q N f i (o.map fun q => (((of st, of j), p) :: q.1, q.2))
theorem nx_gt {of : Nat → Int} {i st j : Nat} (h1 : i ≤ st) (h2 : st ≤ j) : i < nx of st j := by
  unfold nx
  split
  · omega
  · rename_i h
    have : st ≠ j := fun e => h (by rw [e])
    omega
theorem al_total {of : Nat → Int} {Q : Nat → Nat → Ro → Prop} {N : Nat} (hQ : ∀ f i, ∃ r, Q f i r) (hG : ∀ f i r, Q f i r → r.fr i) : ∀ (n f i : Nat), N + 1 ≤ i + n → ∃ o, Al of Q N f i o
  | 0, f, i, h => ⟨_, .stop f i (by omega)⟩
  | n + 1, f, i, h => by
    by_cases hi : i < N
    · obtain ⟨st, r, hf⟩ := fd_total (N := N) hQ N f i (by omega)
      cases r with
      | fail f' => exact ⟨_, .none f i st f' hi hf⟩
      | dry => exact ⟨_, .dry f i st hi hf⟩
      | found j p f' =>
        obtain ⟨h1, h2⟩ := fd_ge hG hf rfl
        have h3 := nx_gt (of := of) h1 h2
        obtain ⟨o, ho⟩ := al_total (N := N) (of := of) hQ hG n f' (nx of st j) (by omega)
        exact ⟨_, .more f i st j p f' o hi hf ho⟩
    · exact ⟨_, .stop f i (by omega)⟩
theorem al_det {of : Nat → Int} {Q : Nat → Nat → Ro → Prop} {N : Nat} (hQ : ∀ f i r r', Q f i r → Q f i r' → r = r') {f i o} (h : Al of Q N f i o) : ∀ {o'}, Al of Q N f i o' → o = o' := by
  induction h with
  | stop f i h =>
    intro o' h'
    cases h' with
    | stop => rfl
    | none _ _ _ _ h2 => exact absurd h2 (by omega)
    | dry _ _ _ h2 => exact absurd h2 (by omega)
    | more _ _ _ _ _ _ _ h2 => exact absurd h2 (by omega)
  | none f i st f' h hf =>
    intro o' h'
    cases h' with
    | stop _ _ h2 => exact absurd h (by omega)
    | none _ _ _ _ _ hf2 => have e := (fd_det hQ hf hf2).2; injection e with e; rw [e]
    | dry _ _ _ _ hf2 => have e := (fd_det hQ hf hf2).2; cases e
    | more _ _ _ _ _ _ _ _ hf2 => have e := (fd_det hQ hf hf2).2; cases e
  | dry f i st h hf =>
    intro o' h'
    cases h' with
    | stop _ _ h2 => exact absurd h (by omega)
    | none _ _ _ _ _ hf2 => have e := (fd_det hQ hf hf2).2; cases e
    | dry => rfl
    | more _ _ _ _ _ _ _ _ hf2 => have e := (fd_det hQ hf hf2).2; cases e
  | more f i st j p f' o h hf h2 ih =>
    intro o' h'
    cases h' with
    | stop _ _ h2 => exact absurd h (by omega)
    | none _ _ _ _ _ hf2 => have e := (fd_det hQ hf hf2).2; cases e
    | dry _ _ _ _ hf2 => have e := (fd_det hQ hf hf2).2; cases e
    | more _ _ _ _ _ _ _ _ hf2 h4 =>
      obtain ⟨rfl, e⟩ := fd_det hQ hf hf2
      injection e with e1 e2 e3
      subst e1 e2 e3
      rw [ih h4]
theorem al_step {of : Nat → Int} {Q : Nat → Nat → Ro → Prop} {N : Nat} {f i o} (h : Al of Q N f i o) (hi : i < N) : ∃ st r, Fd Q N f i st r ∧ match r with
    | .fail f' => o = some ([], f')
    | .dry => o = Option.none
    | .found j p f' => ∃ o', Al of Q N f' (nx of st j) o' ∧ o = o'.map fun q => (((of st, of j), p) :: q.1, q.2) := by
  cases h with
  | stop _ _ h => exact absurd hi (by omega)
  | none _ _ st f' _ hf => exact ⟨st, _, hf, rfl⟩
  | dry _ _ st _ hf => exact ⟨st, _, hf, rfl⟩
  | more _ _ st j p f' o _ hf h2 => exact ⟨st, _, hf, o, h2, rfl⟩
theorem al_end {of : Nat → Int} {Q : Nat → Nat → Ro → Prop} {N : Nat} {f i o} (h : Al of Q N f i o) (hi : N ≤ i) : o = some ([], f) := by
  cases h with
  | stop => rfl
  | none _ _ _ _ h => exact absurd h (by omega)
  | dry _ _ _ h => exact absurd h (by omega)
  | more _ _ _ _ _ _ _ h => exact absurd h (by omega)
def addO (ms : List Mt) (o : Option (List Mt × Nat)) : Option (List Mt × Nat) := o.map fun q => (ms ++ q.1, q.2)
theorem addO_more (ms : List Mt) (m : Mt) (o : Option (List Mt × Nat)) : addO ms (o.map fun q => (m :: q.1, q.2)) = addO (ms ++ [m]) o := by
  cases o with
  | none => rfl
  | some q => simp [addO]
-- memory
section
variable {X : Mx} {R : World} {S : List Nat} {w w' : World} {T : List Tk} {p : List (Int × Int)} {tr : List (Nat × (Int × Int))} {C : List Ch} {rv tv cv : Value} {L : List (Value × Nat × Nat)}
theorem tk_other {W : World} {F : Nat → Prop} {row : Option Nat} {v : Value} {T : List Tk} (h : TkAt W F w v T) (hg : w.grownBy w' row) (hr : ∀ k, row = some k → ∃ u : Int, w.cell? ⟨k, 1, none⟩ = some (.int .i64 u)) : TkAt W F w' v T := by
  induction h with
  | nil => exact .nil
  | cons b t T rv wh q n fr hb hc ht h ih =>
    refine .cons b t T rv wh q n fr hb (fun j u hu => cell_gr hg (fun e => ?_) (hc j u hu)) ht ih
    obtain ⟨u', hu'⟩ := hr b e
    have h1 := hc 1 _ rfl
    rw [hu'] at h1
    injection h1 with h1
    cases h1
theorem chs_other {W : World} {F : Nat → Prop} {row : Option Nat} (hg : w.grownBy w' row) (hr : ∀ k, row = some k → ∃ u : Int, w.cell? ⟨k, 1, none⟩ = some (.int .i64 u)) : ∀ {L : List (Value × Nat × Nat)} {C : List Ch}, ChsAt W F w L C → ChsAt W F w' L C
  | [], [], _ => trivial
  | e :: L, c :: C, h => ⟨tk_other h.1 hg hr, h.2.1, h.2.2.1, chs_other hg hr h.2.2.2⟩
  | [], _ :: _, h => h.elim
  | _ :: _, [], h => h.elim
theorem MR.other {row : Option Nat} (h : MR X R S w T p tr C rv tv cv L) (hg : w.grownBy w' row) (hF : ∀ k, row = some k → ¬ X.F tv cv k) (hW : ∀ k, row = some k → X.W.heap.size ≤ k ∧ InS R S k ∧ X.plb ≠ k)
    (hr : ∀ k, row = some k → ∃ u : Int, w.cell? ⟨k, 1, Option.none⟩ = some (.int .i64 u)) : MR X R S w' T p tr C rv tv cv L :=
  { h with
    bW := bW_gr h.bW hg (fun k hk => (hW k hk).1)
    chg := h.chg.grown hg (fun k hk => (hW k hk).2.1)
    ml := Nat.lt_of_lt_of_le h.ml hg.size
    pl := row_kept h.pl hg (fun k hk e => (hW k hk).2.2 (by injection e))
    parts := row_kept h.parts hg (fun k hk e => hF k hk (.inr (.inl (by injection e with e; exact e.symm))))
    trail := row_kept h.trail hg (fun k hk e => hF k hk (.inr (.inr (.inl e))))
    chs := row_kept h.chs hg (fun k hk e => hF k hk (.inr (.inr (.inr e))))
    todo := tk_other h.todo hg hr
    cs := chs_other hg hr h.cs }
theorem mr_unbase {w1 : World} {S' : List Nat} (hr : MR X w S' w1 T p tr C rv tv cv L) (hc : Chg R w S) (hS : ∀ k ∈ S', InS R S k) : MR X R S w1 T p tr C rv tv cv L := by
  have hI : ∀ k, InS w S' k → InS R S k := fun k hk => by
    rcases hk with h1 | h1
    · exact hS k h1
    · exact .inr (Nat.le_trans hc.size h1)
  exact { hr with
    chg := ⟨hr.chg.os.trans hc.os, hr.chg.tape.trans hc.tape, hr.chg.output.trans hc.output, Nat.le_trans hc.size hr.chg.size, fun k hk hn => (hr.chg.block k (Nat.lt_of_lt_of_le hk hc.size) (fun hm => by
      rcases hS k hm with h1 | h1
      · exact hn h1
      · omega)).trans (hc.block k hk hn)⟩
    im := hI _ hr.im
    ip := hI _ hr.ip
    it := fun k hk => hI k (hr.it k hk)
    ic := fun k hk => hI k (hr.ic k hk) }
theorem own_chg {base : Nat} {e : TypeId} {size : Nat} {v : Value} {n : Nat} {xs : List Value} (h : w.ownsRow base e size v n xs) (hc : Chg w w' S) (hn : ∀ k, v.ownBlock = some k → k ∉ S) : w'.ownsRow base e size v n xs := by
  have hl := World.ownsRow.lt h
  obtain ⟨h1, h2⟩ := h
  refine ⟨h1, ?_⟩
  rcases h2 with h2 | ⟨B, cap, cs, hv, hb, hh, h3⟩
  · exact .inl h2
  · refine .inr ⟨B, cap, cs, hv, hb, ?_, h3⟩
    have hB : v.ownBlock = some B := by rw [hv]; rfl
    exact (hc.block B (hl B hB).2 (hn B hB)).trans hh
def encA (e : Int × Int × Value) : List Value := [.int .i64 e.1, .int .i64 e.2.1, e.2.2]
def flatA (L : List (Int × Int × Value)) : List Value := L.flatMap encA
def MtsAt (bA : Nat) (F : Nat → Prop) (w : World) : List (Int × Int × Value) → List Mt → Prop
  | [], [] => True
  | e :: A, m :: ms => e.1 = m.1.1 ∧ e.2.1 = m.1.2 ∧ (w.ownsRow bA 33 2 e.2.2 m.2.length (flat m.2) ∧ ∀ k, e.2.2.ownBlock = some k → ¬ F k) ∧ MtsAt bA F w A ms
  | _, _ => False
theorem mts_map {bA bA' : Nat} {F F' : Nat → Prop} (hf : ∀ v n xs, w.ownsRow bA 33 2 v n xs → (∀ k, v.ownBlock = some k → ¬ F k) → w'.ownsRow bA' 33 2 v n xs ∧ ∀ k, v.ownBlock = some k → ¬ F' k) : ∀ {A : List (Int × Int × Value)} {ms : List Mt}, MtsAt bA F w A ms → MtsAt bA' F' w' A ms
  | [], [], _ => trivial
  | e :: A, m :: ms, h => ⟨h.1, h.2.1, hf _ _ _ h.2.2.1.1 h.2.2.1.2, mts_map hf h.2.2.2⟩
  | [], _ :: _, h => h.elim
  | _ :: _, [], h => h.elim
theorem mts_snoc {bA : Nat} {F : Nat → Prop} {e : Int × Int × Value} {m : Mt} (h1 : e.1 = m.1.1) (h2 : e.2.1 = m.1.2) (h3 : w.ownsRow bA 33 2 e.2.2 m.2.length (flat m.2) ∧ ∀ k, e.2.2.ownBlock = some k → ¬ F k) : ∀ {A : List (Int × Int × Value)} {ms : List Mt}, MtsAt bA F w A ms → MtsAt bA F w (A ++ [e]) (ms ++ [m])
  | [], [], _ => ⟨h1, h2, h3, trivial⟩
  | _ :: A, _ :: ms, h => ⟨h.1, h.2.1, h.2.2.1, mts_snoc h1 h2 h3 h.2.2.2⟩
  | [], _ :: _, h => h.elim
  | _ :: _, [], h => h.elim
structure AlI (X : Mx) (R : World) (bA : Nat) (w : World) (s : Ms) (v : Value) (A : List (Int × Int × Value)) (ms : List Mt) (rv tv cv : Value) (L : List (Value × Nat × Nat)) : Prop where
  mr : MR X R [] w s.todo s.p s.tr s.C rv tv cv L
  cm : Cm w X.m (X.cs s.f s.i rv tv cv)
  row : w.ownsRow bA 36 3 v A.length (flatA A)
  nF : ∀ k, v.ownBlock = some k → ¬ X.F tv cv k
  none : A = [] → v.ownBlock = Option.none
  mts : MtsAt bA (fun k => X.F tv cv k ∨ v.ownBlock = some k) w A ms
  hb : bA ≤ w.heap.size
  hW : X.W.heap.size ≤ bA
  hR : R.heap.size ≤ bA
  hpl : X.plb < bA
def AlE (X : Mx) (R : World) (bA : Nat) (w : World) (s : Ms) (v : Value) (A : List (Int × Int × Value)) (ms : List Mt) : Prop := ∃ rv tv cv L, AlI X R bA w s v A ms rv tv cv L
variable {bA : Nat} {s : Ms} {v : Value} {A : List (Int × Int × Value)} {ms : List Mt}
theorem AlE.mp (h : AlE X R bA w s v A ms) : MP X R [] s w := by
  obtain ⟨_, _, _, _, h⟩ := h
  exact ⟨_, _, _, _, h.mr, h.cm⟩
theorem AlE.base (h : AlE X R bA w s v A ms) : ∃ S', MP X w S' s w ∧ ∀ s' w', MP X w S' s' w' → AlE X R bA w' s' v A ms := by
  obtain ⟨rv, tv, cv, L, h⟩ := h
  refine ⟨X.bl tv cv, ⟨rv, tv, cv, L, mr_base h.mr, h.cm⟩, fun s' w' h' => ?_⟩
  obtain ⟨rv', tv', cv', L', hr, hc⟩ := h'
  have hF : ∀ k, X.F tv' cv' k → X.F tv cv k ∨ w.heap.size ≤ k := fun k hk => by
    have hI : InS w (X.bl tv cv) k := by
      rcases hk with rfl | rfl | hk | hk
      · exact hr.im
      · exact hr.ip
      · exact hr.it k hk
      · exact hr.ic k hk
    rcases hI with h1 | h1
    · exact .inl (memL.1 h1)
    · exact .inr h1
  refine ⟨rv', tv', cv', L', mr_unbase hr h.mr.chg (mr_in h.mr), hc, own_chg h.row hr.chg (fun k hk hm => h.nF k hk (memL.1 hm)), fun k hk hf => ?_, h.none, mts_map (fun v0 n xs ho hn => ⟨own_chg ho hr.chg (fun k hk hm => hn k hk (.inl (memL.1 hm))), fun k hk hf => ?_⟩) h.mts, Nat.le_trans h.hb hr.chg.size, h.hW, h.hR, h.hpl⟩
  · rcases hF k hf with h1 | h1
    · exact h.nF k hk h1
    · have := (World.ownsRow.lt h.row k hk).2; omega
  · rcases hf with hf | hf
    · rcases hF k hf with h1 | h1
      · exact hn k hk (.inl h1)
      · have := (World.ownsRow.lt ho k hk).2; omega
    · exact hn k hk (.inr hf)
theorem AlE.bl (h : AlE X R bA w s v A ms) (hb : Below w.heap.size w w') : AlE X R bA w' s v A ms := by
  obtain ⟨rv, tv, cv, L, h⟩ := h
  exact ⟨rv, tv, cv, L, h.mr.bl hb, h.cm.bl hb, own_below h.row hb, h.nF, h.none, mts_map (fun v0 n xs ho hn => ⟨own_below ho hb, hn⟩) h.mts, Nat.le_trans h.hb hb.size, h.hW, h.hR, h.hpl⟩
theorem flatA_snoc (A : List (Int × Int × Value)) (e : Int × Int × Value) : flatA (A ++ [e]) = flatA A ++ encA e := by simp [flatA]
theorem AlE.push {w2 : World} (h0 : AlE X R bA w2 s v A ms) (hb : Below w2.heap.size w2 w) {a b : Int} {pv v' : Value} {p : List (Int × Int)} (hpv : w.ownsRow w2.heap.size 33 2 pv p.length (flat p))
    (hv : w'.ownsRow bA 36 3 v' (A.length + 1) (flatA A ++ [.int .i64 a, .int .i64 b, pv])) (hg : w.grownBy w' v.ownBlock) (h5 : v'.ownBlock = v.ownBlock ∨ ∃ k, v'.ownBlock = some k ∧ w.heap.size ≤ k) : AlE X R bA w' s v' (A ++ [(a, b, pv)]) (ms ++ [((a, b), p)]) := by
  obtain ⟨rv, tv, cv, L, h0⟩ := h0
  have hmr := h0.mr.bl hb
  have hFlt : ∀ k, X.F tv cv k → k < w2.heap.size := h0.mr.Flt
  have hvlt : ∀ k, v.ownBlock = some k → bA ≤ k ∧ k < w2.heap.size := fun k hk => World.ownsRow.lt h0.row k hk
  have hplt : ∀ k, pv.ownBlock = some k → w2.heap.size ≤ k ∧ k < w.heap.size := fun k hk => World.ownsRow.lt hpv k hk
  have hsz := hb.size
  have hrow := own_below h0.row hb
  have hcell : ∀ k, v.ownBlock = some k → ∃ u : Int, w.cell? ⟨k, 1, none⟩ = some (.int .i64 u) := fun k hk => by
    cases A with
    | nil => rw [h0.none rfl] at hk; cases hk
    | cons e A =>
      rcases own_form hrow with ⟨_, h1, _⟩ | ⟨g, c', hvv, _, _, _, _, hc⟩
      · simp at h1
      · rw [hvv] at hk
        have e1 : g = k := by injection hk
        subst e1
        exact ⟨_, hc 1 _ rfl⟩
  have hW : ∀ k, v.ownBlock = some k → X.W.heap.size ≤ k ∧ InS R [] k ∧ X.plb ≠ k := fun k hk => ⟨Nat.le_trans h0.hW (hvlt k hk).1, .inr (Nat.le_trans h0.hR (hvlt k hk).1), by have := h0.hpl; have := (hvlt k hk).1; omega⟩
  refine ⟨rv, tv, cv, L, hmr.other hg h0.nF hW hcell, (h0.cm.bl hb).gr hg (fun e => h0.nF _ e (.inl rfl)), by rw [List.length_append, flatA_snoc]; exact hv, fun k hk hf => ?_, fun e => by simp at e, ?_, Nat.le_trans (Nat.le_trans h0.hb hsz) hg.size, h0.hW, h0.hR, h0.hpl⟩
  · rcases h5 with h5 | ⟨k2, h5, h6⟩
    · exact h0.nF k (by rw [← h5]; exact hk) hf
    · rw [h5] at hk; injection hk with hk; subst hk; have := hFlt _ hf; omega
  · refine mts_snoc rfl rfl ⟨?_, fun k hk hf => ?_⟩ (mts_map (fun v0 n xs ho hn => ⟨row_kept (own_below ho hb) hg (fun k hk e => hn k e (.inr hk)), fun k hk hf => ?_⟩) h0.mts)
    · exact row_kept (own_base hpv (Nat.le_trans h0.hb (Nat.le_refl _))) hg (fun k hk e => by have := (hvlt k hk).2; have := (hplt k e).1; omega)
    · have h1 := hplt k hk
      rcases hf with hf | hf
      · have := hFlt k hf; omega
      · rcases h5 with h5 | ⟨k2, h5, h6⟩
        · have := (hvlt k (by rw [← h5]; exact hf)).2; omega
        · rw [h5] at hf; injection hf with hf; omega
    · rcases hf with hf | hf
      · exact hn k hk (.inl hf)
      · rcases h5 with h5 | ⟨k2, h5, h6⟩
        · exact hn k hk (.inr (by rw [← h5]; exact hf))
        · rw [h5] at hf; injection hf with hf; have := (World.ownsRow.lt ho k hk).2; omega
def AlPost (o : Option (List Mt × Nat)) (w : World) (e : Ending) (w' : World) : Prop := match o with
  | Option.none => e = .returned (.tuple #[.slice Option.none 0 0, .int .i64 0, .int .i64 9]) ∧ Below w.heap.size w w'
  | some q => ∃ v A, e = .returned (.tuple #[v, .int .i64 ((q.2 : Nat) : Int), .int .i64 0]) ∧ Below w.heap.size w w' ∧ w'.ownsRow w.heap.size 36 3 v A.length (flatA A) ∧ MtsAt w.heap.size (fun _ => False) w' A q.1
end
end Go.Proofs.YtcnliipkfccohabGreat
end
section
namespace Go.Proofs.YtcnliipkfccohabGreat
open Go.ChangeShapes Go.WideShapes Go.ChangeAt Go.RowKit
open SetM SpanM
attribute [local go_sem ↓] Go.wp_at_zero Go.wp_at_succ
set_option maxRecDepth 100000
set_option linter.unusedVariables false
attribute [local go_sem] later_cell later_frozen
theorem info_mt : (Tryz.prog.info? 36).map (fun i => (i.zero, i.size, i.bytes)) = some (some (.agg #[.int .i64 0, .int .i64 0, .slice none 0 0]), 3, 40) := by kernel_rfl
set_option maxHeartbeats 1000000 in
theorem len16_any (a b n : Int) (w : World) (h1 : 0 ≤ a) (h2 : a ≤ 4000000000000000000) (h3 : 0 ≤ b) (h4 : b ≤ 4000000000000000000) (hn : b - a = n) : Calls Tryz.prog 27 #[.agg #[.int .i64 a, .int .i64 b]] w fun e w' => e = .returned (.int .i64 n) ∧ Below w.heap.size w w' := by
  subst hn
  go_enter Tryz.func27, Tryz.ntmps27
  go_wp2
  go_ret
  exact ⟨rfl, (by repeat (first | exact bl_refl _ | assumption | refine bl_alloc ?_ _ | refine bl_drewN ?_ _ | refine bl_drew ?_ | refine bl_trans ?_ (by assumption)))⟩
theorem of_bd {X : Mx} (hX : X.Ok) (i : Nat) (h : i < X.ps.length) : 0 ≤ X.of i ∧ X.of i ≤ 1000 := by
  rw [of_eq]
  unfold ofG
  rw [List.getD_eq_getElem?_getD, List.getElem?_eq_getElem h, Option.getD_some]
  have h1 := hX.top i h
  have h2 := hX.sz
  omega
def AgPost (t : Rt) (fold : Bool) (s : ByteArray) (fuel : Int) (w : World) (e : Ending) (w' : World) : Prop :=
  if cnB t 16 512 = false then e = .returned (.tuple #[.slice Option.none 0 0, .int .i64 0, .int .i64 10]) ∧ Below w.heap.size w w'
  else if (0 : Int) ∈ (psS s).map (fun (n : Nat) => (n : Int)) then ∃ (i : Nat) (o : Option (List Mt × Nat)), (∃ h : i < (psS s).length, (((psS s)[i] : Nat) : Int) = 0) ∧
    Al (ofG (psS s)) (QG (ofG (psS s)) (tkG s (psS s) fold) t (gM t)) (psS s).length (min (max fuel 0) 20000).toNat i o ∧ AlPost o w e w'
  else e = .returned (.tuple #[.slice Option.none 0 0, .int .i64 0, .int .i64 3]) ∧ Below w.heap.size w w'
set_option maxHeartbeats 4000000 in
theorem all_any {w : World} {t : Rt} (h : RxAt w t) (hsz : sM t ≤ 1000) (fold : Bool) (s : ByteArray) (hs : s.size ≤ 999) (fuel : Int) :
    Calls Tryz.prog 14 #[t.v, .bool fold, .string s, .int .i64 fuel] w (AgPost t fold s fuel w) := by
  obtain ⟨tA, tc, hkv⟩ := ksat_len h.ks
  obtain ⟨rA, rc, hrv⟩ := rwat_len h.rows
  have hv : t.v = .agg #[.int .i64 t.k, .string t.ch, .bool t.nt, .slice rA t.rows.length rc, .int .i64 t.mi, .int .i64 t.ma, .bool t.lz, .slice tA t.kids.length tc] := by unfold Rt.v Rt.cs; rw [hkv, hrv]
  have HPR := hide (fun (W : World) (hb : Below w.heap.size w W) => prepare_any (rx_below h hb) hsz fold s hs 0 fuel)
  rw [hv] at HPR ⊢
  have HSZ := hide hsz
  have HS := hide hs
  obtain ⟨i0, hi0, hz0', hz1, hz2⟩ := info_parts info_mt
  have HB0 := hide (show Below w.heap.size w (w.alloc (.cells #[.int .i64 t.k, .string t.ch, .bool t.nt, .slice rA t.rows.length rc, .int .i64 t.mi, .int .i64 t.ma, .bool t.lz, .slice tA t.kids.length tc] 25)) from bl_alloc (bl_refl w) _)
  clear h hsz hkv hrv hv hs
  go_enter Tryz.func14, Tryz.ntmps14
  go_wp2_with fail
  refine (HPR.out _ HB0.out).mono ?_
  rintro e w1 hp
  obtain ⟨W0, hW0⟩ : ∃ W, (w.alloc (.cells #[.int .i64 t.k, .string t.ch, .bool t.nt, .slice rA t.rows.length rc, .int .i64 t.mi, .int .i64 t.ma, .bool t.lz, .slice tA t.kids.length tc] 25)) = W := ⟨_, rfl⟩
  rw [hW0] at hp HB0
  clear hW0
  unfold PrPost at hp
  by_cases c1 : cnB t 16 512 = false
  · rw [if_pos c1] at hp
    obtain ⟨rfl, hb1⟩ := hp
    have HBF := hide (bl_trans HB0.out hb1)
    have C1 := hide c1
    clear hb1 c1
    go_wp2_with fail
    refine bodyPost_ret (v := .tuple #[.slice Option.none 0 0, .int .i64 0, .int .i64 10]) ?_ rfl ?_
    · rw [results_tmp3 rfl]
      go_simp
    · unfold AgPost
      rw [if_pos C1.out]
      exact ⟨rfl, HBF.out⟩
  · rw [if_neg c1] at hp
    by_cases c2 : (0 : Int) ∈ (psS s).map (fun (n : Nat) => (n : Int))
    · rw [if_pos c2] at hp
      obtain ⟨X, i, rfl, hXs, hXf, hXp, hXn, hXd, hXi, hMP⟩ := hp
      have hnp : X.np ≤ 512 := by rw [hXn]; have h1 := gM_le t; have h2 := (cnB_ok (by simpa using c1)).2; omega
      have ho : XOk X.np t 0 := ⟨(cnB_ok (by simpa using c1)).1, by rw [hXn]; omega, (cnB_ok (by simpa using c1)).2, HSZ.out⟩
      have hok := ok_of hXs hXp HS.out
      have hsg : ∀ k ∈ ([.hold t 0] : List Kt), SgT k := fun k hk => by
        rw [List.mem_singleton] at hk
        subst hk
        exact ok_sg t (cnB_ok (by simpa using c1)).1
      obtain ⟨hil, hie⟩ := hXi
      have hQt : ∀ f j, ∃ r, QG X.of X.takes t X.np f j r := fun f j => on_total X.of X.takes f _ [.hold t 0] j (List.replicate X.np (-1, -1)) hsg (Nat.lt_succ_self _)
      have hQg : ∀ f j r, QG X.of X.takes t X.np f j r → r.fr j := fun f j r hq => on_ge X.of X.takes hq
      have hQl : ∀ f j r, QG X.of X.takes t X.np f j r → r.left ≤ f := fun f j r hq => on_left X.of X.takes hq
      obtain ⟨o, hal⟩ := al_total (of := X.of) (Q := QG X.of X.takes t X.np) (N := X.ps.length) hQt hQg (X.ps.length + 1) (min (max fuel 0) 20000).toNat i (by omega)
      have HON := hide (show Al (ofG (psS s)) (QG (ofG (psS s)) (tkG s (psS s) fold) t (gM t)) (psS s).length (min (max fuel 0) 20000).toNat i o by
        have := hal
        rw [of_eq, tk_eq, hXs, hXp, hXf, hXn] at this
        exact this)
      have HI := hide (show ∃ h : i < (psS s).length, (((psS s)[i] : Nat) : Int) = 0 from ⟨by rw [← hXp]; exact hil, by simp only [← hXp]; exact hie⟩)
      have C1 := hide c1
      have C2 := hide c2
      have HX := hide hok
      have HN := hide hXd
      have HO := hide ho
      have HNP := hide hnp
      have HQG := hide hQg
      have HQL := hide hQl
      have HLEN := hide (show X.ps.length ≤ 1000 from hok.len)
      have HIL := hide hil
      have HAL0 := hide hal
      have HBR := hide (show Below W0.heap.size W0 W0 from bl_refl _)
      have HCH := hide (show w.heap.size ≤ W0.heap.size from HB0.out.size)
      have HAE0 := hide (show AlE X W0 w1.heap.size w1 ⟨[], 0, List.replicate (gM t) (0, 0), [], [], (min (max fuel 0) 20000).toNat⟩ (.slice Option.none 0 0) [] [] by
        obtain ⟨rv, tv, cv, L, hm, hc⟩ := hMP
        exact ⟨rv, tv, cv, L, hm, hc, ⟨by simp [flatA], .inl ⟨rfl, rfl⟩⟩, fun k hk => (by cases hk), fun _ => rfl, trivial, Nat.le_refl _, hm.bW.size, hm.chg.size, (World.ownsRow.lt hm.pl X.plb rfl).2⟩)
      have HF0 := hide (show (min (max fuel 0) 20000).toNat ≤ 20000 by omega)
      obtain ⟨f0, hf0⟩ : ∃ f, (min (max fuel 0) 20000).toNat = f := ⟨_, rfl⟩
      have HON2 := hide (fun (e : Ending) (w' : World) (h : AlPost o w e w') => (show AgPost t fold s fuel w e w' by
        unfold AgPost
        rw [if_neg C1.out, if_pos C2.out]
        exact ⟨i, o, HI.out, HON.out, h⟩))
      rw [hf0] at HAL0 HAE0 HF0
      obtain ⟨bA, hbA⟩ : ∃ b, w1.heap.size = b := ⟨_, rfl⟩
      rw [hbA] at HAE0
      clear hXs hXf hXp hXn hXd hMP hnp ho hok hsg hil hie hal hQt hQg hQl c1 c2 hf0 HON HI C1 C2 HPR hbA
      go_wp2_with fail
      go_loopw [12, 14] (fun iv av wr => ∃ (k : Nat) (A3 : Option Addr) (n3 c3 : Nat) (A : List (Int × Int × Value)) (ms : List Mt) (o2 : Option (List Mt × Nat)) (s2 : Ms), iv = .int .i64 ((k : Nat) : Int) ∧ av = .slice A3 n3 c3 ∧ k ≤ X.ps.length ∧ A.length ≤ k ∧ s2.f ≤ 20000 ∧ Hid (AlE X W0 bA wr s2 (.slice A3 n3 c3) A ms) ∧ Hid (Al X.of (QG X.of X.takes t X.np) X.ps.length s2.f k o2) ∧ Hid (o = addO ms o2)) (fun iv _ _ => X.ps.length - (intOf iv).toNat)
      case atStart => exact ⟨i, none, 0, 0, [], [], o, _, rfl, rfl, Nat.le_of_lt HIL.out, Nat.zero_le _, HF0.out, HAE0, HAL0, hide (by unfold addO; cases o <;> rfl)⟩
      case round =>
        obtain ⟨k, A3, n3, c3, A, ms, o2, s2, rfl, rfl, hk, hAk, hsf, HAE, HAL, HOO⟩ := hrel
        clear HAE0 HAL0 HF0 HIL
        obtain ⟨_, _, _, hc⟩ := mp_cs HAE.out.mp
        have y1 : wr.cell? ⟨X.m, 1, none⟩ = some (.slice (some ⟨X.plb, 0, none⟩) X.ps.length X.pc) := hc.c 1 _ rfl
        have y3 : wr.cell? ⟨X.m, 3, none⟩ = some (.int .i64 ((s2.f : Nat) : Int)) := hc.c 3 _ rfl
        have lt1 := hc.s
        have h1000 := HLEN.out
        by_cases hlt : k < X.ps.length
        · have d1 : decide ((k : Int) < (X.ps.length : Int)) = true := decide_eq_true (by omega)
          have d1' : decide (k < X.ps.length) = true := decide_eq_true hlt
          obtain ⟨st, r, hfd, hres⟩ := al_step HAL.out hlt
          obtain ⟨S', hmp, hback⟩ := HAE.out.base
          have HFN := hide (find_any HX.out hmp HN.out HO.out HNP.out k hk hsf st r hfd)
          have HBK := hide hback
          have HFD := hide hfd
          have HK := hide hlt
          have HSF := hide hsf
          have HAK := hide hAk
          clear hc hlt hk hsf h1000 hfd hmp hback HAL hAk
          go_wp2_with fail
          refine HFN.out.mono ?_
          rintro e w2 ⟨rfl, hrs⟩
          have HRS := hide hrs
          clear hrs HFN y1 y3 lt1
          cases r with
          | dry =>
            have hO : o = none := by rw [HOO.out, show o2 = none from hres]; rfl
            obtain ⟨sx, hmx⟩ := HRS.out
            have HE := hide (HBK.out _ _ hmx).mp
            have HFIN := hide (HON2.out (.returned (.tuple #[.slice Option.none 0 0, .int .i64 0, .int .i64 9])) w2 (by
              rw [hO]
              obtain ⟨_, _, _, _, hm, _⟩ := HE.out
              exact ⟨rfl, bl_trans HB0.out (chg_bl hm.chg)⟩))
            rw [show outV .dry = 2 from rfl]
            clear hO hres hmx
            go_wp2_with fail
            refine bodyPost_ret (v := .tuple #[.slice Option.none 0 0, .int .i64 0, .int .i64 9]) ?_ rfl HFIN.out
            rw [results_tmp3 rfl]
            go_simp
          | fail f' =>
            obtain ⟨sx, hmx, hfx⟩ := HRS.out
            have hae := HBK.out _ _ hmx
            obtain ⟨_, _, _, hc⟩ := mp_cs hae.mp
            have y3 : w2.cell? ⟨X.m, 3, none⟩ = some (.int .i64 ((f' : Nat) : Int)) := by rw [← hfx]; exact hc.c 3 _ rfl
            have lt1 := hc.s
            have HFIN := hide (fun (W : World) (hbW : Below w2.heap.size w2 W) => HON2.out (.returned (.tuple #[.slice A3 n3 c3, .int .i64 ((f' : Nat) : Int), .int .i64 0])) W (by
              rw [HOO.out, show o2 = some ([], f') from hres]
              obtain ⟨rv, tv, cv, L, ha⟩ := hae.bl hbW
              show AlPost (some (ms ++ [], f')) _ _ _
              rw [List.append_nil]
              exact ⟨_, A, rfl, bl_trans HB0.out (chg_bl ha.mr.chg), own_base ha.row (Nat.le_trans HCH.out ha.hR), mts_map (fun v0 n xs ho hn => ⟨own_base ho (Nat.le_trans HCH.out ha.hR), fun _ _ hf => hf⟩) ha.mts⟩))
            rw [show outV (.fail f') = 1 from rfl]
            clear hae hc hres hmx
            go_wp2_with fail
            go_quiet (fail)
            go_wp2_with fail
            refine bodyPost_ret (v := .tuple #[.slice A3 n3 c3, .int .i64 ((f' : Nat) : Int), .int .i64 0]) ?_ rfl (HFIN.out _ (bl_drewN (bl_refl _) _))
            rw [results_tmp3 rfl]
            go_simp
          | found j p f' =>
            obtain ⟨o3, hal3, ho3⟩ := hres
            obtain ⟨sx, hmx, rfl, rfl, rfl, hjl⟩ := HRS.out
            have HAE2 := hide (HBK.out _ _ hmx)
            have hst := fd_lt HFD.out (fun f' e => by cases e)
            have hge := fd_ge HQG.out HFD.out rfl
            have HMT := hide (match_any HX.out HAE2.out.mp st hst.2 (by omega) HNP.out)
            have HGT := hide (nx_gt (of := X.of) hge.1 hge.2)
            have HAL3 := hide hal3
            have HO3 := hide (show o = addO (ms ++ [((X.of st, X.of sx.i), sx.p)]) o3 by rw [HOO.out, ho3, addO_more])
            have HJL := hide hjl
            have HFL := hide (show sx.f ≤ 20000 from Nat.le_trans (fd_left HQL.out HFD.out) HSF.out)
            obtain ⟨a0, a1⟩ := of_bd HX.out st hst.2
            obtain ⟨b0, b1⟩ := of_bd HX.out sx.i (by omega)
            have HLN := hide (fun (W : World) => len16_any (X.of st) (X.of sx.i) _ W a0 (by omega) b0 (by omega) rfl)
            rw [show outV (.found sx.i sx.p sx.f) = 0 from rfl]
            clear hst hge hal3 ho3 hjl a0 a1 b0 b1 hmx HBK HRS HFD
            go_wp2_with fail
            refine HMT.out.mono ?_
            rintro e w3 ⟨pv, rfl, hb3, hpv⟩
            obtain ⟨A5, c5, rfl⟩ := own_slice hpv
            have HPV := hide hpv
            have HB3 := hide hb3
            obtain ⟨fa, hfa⟩ : ∃ x, X.of st = x := ⟨_, rfl⟩
            obtain ⟨fb, hfb⟩ : ∃ x, X.of sx.i = x := ⟨_, rfl⟩
            rw [hfa, hfb] at HO3 HLN ⊢
            have HAB := hide (And.intro hfa hfb)
            have HONE := hide (show ∀ u ∈ ([.int .i64 fa, .int .i64 fb, .slice A5 sx.p.length c5] : List Value), u.oneCell' = true by simp [Value.oneCell'])
            have HOWN := hide (fun (W : World) (hb : Below w3.heap.size w3 W) => (show W.ownsRow bA 36 3 (.slice A3 n3 c3) A.length (flatA A) by
              obtain ⟨_, _, _, _, ha⟩ := (HAE2.out.bl HB3.out).bl hb
              exact ha.row))
            have HBA := hide (show bA ≤ w3.heap.size by
              obtain ⟨_, _, _, _, ha⟩ := HAE2.out.bl HB3.out
              exact ha.hb)
            have HPUSH := hide (fun (W : World) (hb : Below w3.heap.size w3 W) (v' : Value) (w' : World) (hv : w'.ownsRow bA 36 3 v' (A.length + 1) (flatA A ++ [.int .i64 fa, .int .i64 fb, .slice A5 sx.p.length c5])) (hg : W.grownBy w' (Value.slice A3 n3 c3).ownBlock) (h5 : v'.ownBlock = (Value.slice A3 n3 c3).ownBlock ∨ ∃ k, v'.ownBlock = some k ∧ W.heap.size ≤ k) => HAE2.out.push (bl_trans HB3.out hb) (own_below HPV.out hb) hv hg h5)
            have HNB := hide (show ∀ k, (Value.slice A3 n3 c3).ownBlock = some k → k < w3.heap.size from fun k hk => (World.ownsRow.lt (HOWN.out w3 (bl_refl w3)) k hk).2)
            have hAk2 : A.length + 1 ≤ 100000000 := by have := HAK.out; have := HK.out; have := HLEN.out; omega
            have HC3 := hide (fun (W : World) (hg : ((w3.alloc (.cells #[.int .i64 fa, .int .i64 fb, .slice A5 sx.p.length c5] 36)).alloc (.cells #[.int .i64 fa, .int .i64 fb, .slice A5 sx.p.length c5] 36)).grownBy W (Value.slice A3 n3 c3).ownBlock) => (show W.cell? ⟨w3.heap.size, 0, none⟩ = some (.int .i64 fa) ∧ W.cell? ⟨w3.heap.size, 1, none⟩ = some (.int .i64 fb) ∧ W.cell? ⟨w3.heap.size, 2, none⟩ = some (.slice A5 sx.p.length c5) by
              have hne : (Value.slice A3 n3 c3).ownBlock ≠ some w3.heap.size := fun e => by have := HNB.out _ e; omega
              have hc := cells_new w3 [.int .i64 fa, .int .i64 fb, .slice A5 sx.p.length c5] 36
              exact ⟨cell_gr hg hne (al_blk (hc 0 _ rfl)), cell_gr hg hne (al_blk (hc 1 _ rfl)), cell_gr hg hne (al_blk (hc 2 _ rfl))⟩))
            clear hpv hb3 hfa hfb HMT HAE2 HAE HOO
            go_wp2_with (at_builtin; go_must (refine wpList_src5 _ rfl _ _ 46 rfl bA 36 i0 (.agg #[.int .i64 0, .int .i64 0, .slice none 0 0]) 3 40 Tryz.underlying46 hi0 hz0' hz1 hz2 rfl (by decide) (.slice A3 n3 c3) A.length (flatA A) rfl (HOWN.out _ (bl_alloc (bl_alloc (bl_refl w3) _) _)) (some ⟨_, 0, none⟩) 1 1 [.int .i64 fa, .int .i64 fb, .slice A5 sx.p.length c5] rfl (src_block (cs := #[.int .i64 fa, .int .i64 fb, .slice A5 sx.p.length c5]) (heap_new (by simp)) rfl) HONE.out hAk2 (by decide) (Nat.le_trans HBA.out (bl_alloc (bl_alloc (bl_refl w3) _) _).size) ?_); intro v' w4 hv4 hg4 h5; obtain ⟨A6, c6, rfl⟩ := own_slice hv4; have hAE := HPUSH.out _ (bl_alloc (bl_alloc (bl_refl w3) _) _) _ _ hv4 hg4 h5; have HAE4 := hide hAE; obtain ⟨_, _, _, hc4⟩ := mp_cs hAE.mp; have y5 : w4.cell? ⟨X.m, 5, none⟩ = some (.int .i64 ((sx.i : Nat) : Int)) := hc4.c 5 _ rfl; have lt4 := hc4.s; obtain ⟨q0, q1, q2⟩ := HC3.out _ hg4; clear hAE hc4 hv4 hg4 h5)
            refine (HLN.out _).mono ?_
            rintro e w5 ⟨rfl, hb5⟩
            have HAE5 := hide (HAE4.out.bl hb5)
            have y5 := cell_later hb5 y5
            clear q0 q1 q2 lt4 HAE4 hb5 HC3 HPUSH HOWN HONE HNB HBA HLN
            obtain ⟨dd, hdd⟩ : ∃ d, fb - fa = d := ⟨_, rfl⟩
            rw [hdd]
            have HDD := hide hdd
            have HLA := hide (show A.length + 1 = (A ++ [(fa, fb, Value.slice A5 sx.p.length c5)]).length by simp)
            clear hdd
            by_cases hd : dd = 0
            · subst hd
              have HEQ := hide (show nx X.of st sx.i = sx.i + 1 by unfold nx; rw [if_pos (by rw [HAB.out.1, HAB.out.2]; have := HDD.out; omega)])
              have e5 : IntKind.i64.wrap ((sx.i : Int) + 1) = (sx.i : Int) + 1 := by rw [IntKind.wrap_i64]; have := HJL.out; have := HLEN.out; omega
              rw [HEQ.out] at HGT HAL3
              have HM := hide (show sx.i + 1 ≤ X.ps.length ∧ (A ++ [(fa, fb, Value.slice A5 sx.p.length c5)]).length ≤ sx.i + 1 by have := HGT.out; have := HAK.out; have := HJL.out; rw [← HLA.out]; omega)
              go_wp2
              refine ⟨?_, by have := HGT.out; have := HK.out; simp [intOf]; omega⟩
              first
                | exact ⟨sx.i + 1, A6, _, c6, A ++ [(fa, fb, Value.slice A5 sx.p.length c5)], ms ++ [((fa, fb), sx.p)], o3, sx, by go_num, rfl, HM.out.1, HM.out.2, HFL.out, HAE5, HAL3, HO3⟩
                | ((repeat apply Exists.intro); exact ⟨⟨sx.i + 1, A6, _, c6, A ++ [(fa, fb, Value.slice A5 sx.p.length c5)], ms ++ [((fa, fb), sx.p)], o3, sx, by go_num, rfl, HM.out.1, HM.out.2, HFL.out, HAE5, HAL3, HO3⟩, rfl⟩)
            · have dz : (dd == 0) = false := by simpa using hd
              have dz' : decide (dd = 0) = false := by simpa using hd
              have HEQ := hide (show nx X.of st sx.i = sx.i by unfold nx; rw [if_neg (by rw [HAB.out.1, HAB.out.2]; have := HDD.out; omega)])
              rw [HEQ.out] at HGT HAL3
              have HM := hide (show sx.i ≤ X.ps.length ∧ (A ++ [(fa, fb, Value.slice A5 sx.p.length c5)]).length ≤ sx.i by have := HGT.out; have := HAK.out; have := HJL.out; rw [← HLA.out]; omega)
              clear hd
              go_wp2
              refine ⟨?_, by have := HGT.out; have := HK.out; simp [intOf]; omega⟩
              first
                | exact ⟨sx.i, A6, _, c6, A ++ [(fa, fb, Value.slice A5 sx.p.length c5)], ms ++ [((fa, fb), sx.p)], o3, sx, rfl, rfl, HM.out.1, HM.out.2, HFL.out, HAE5, HAL3, HO3⟩
                | ((repeat apply Exists.intro); exact ⟨⟨sx.i, A6, _, c6, A ++ [(fa, fb, Value.slice A5 sx.p.length c5)], ms ++ [((fa, fb), sx.p)], o3, sx, rfl, rfl, HM.out.1, HM.out.2, HFL.out, HAE5, HAL3, HO3⟩, rfl⟩)
        · obtain rfl : k = X.ps.length := by omega
          have d1 : decide ((X.ps.length : Int) < (X.ps.length : Int)) = false := by simp
          have d1' : decide (X.ps.length < X.ps.length) = false := by simp
          have HFIN := hide (fun (W : World) (hbW : Below wr.heap.size wr W) => HON2.out (.returned (.tuple #[.slice A3 n3 c3, .int .i64 ((s2.f : Nat) : Int), .int .i64 0])) W (by
            rw [HOO.out, al_end HAL.out (Nat.le_refl _)]
            obtain ⟨rv, tv, cv, L, ha⟩ := HAE.out.bl hbW
            show AlPost (some (ms ++ [], s2.f)) _ _ _
            rw [List.append_nil]
            exact ⟨_, A, rfl, bl_trans HB0.out (chg_bl ha.mr.chg), own_base ha.row (Nat.le_trans HCH.out ha.hR), mts_map (fun v0 n xs ho hn => ⟨own_base ho (Nat.le_trans HCH.out ha.hR), fun _ _ hf => hf⟩) ha.mts⟩))
          clear hc hlt hk hsf h1000 HAE HAL HOO hAk
          go_wp2_with fail
          go_quiet (fail)
          go_wp2_with fail
          refine bodyPost_ret (v := .tuple #[.slice A3 n3 c3, .int .i64 ((s2.f : Nat) : Int), .int .i64 0]) ?_ rfl (HFIN.out _ (bl_drewN (bl_refl _) _))
          rw [results_tmp3 rfl]
          go_simp
    · rw [if_neg c2] at hp
      obtain ⟨rfl, hb1⟩ := hp
      have HBF := hide (bl_trans HB0.out hb1)
      have C1 := hide c1
      have C2 := hide c2
      clear hb1 c1 c2
      go_wp2_with fail
      refine bodyPost_ret (v := .tuple #[.slice Option.none 0 0, .int .i64 0, .int .i64 3]) ?_ rfl ?_
      · rw [results_tmp3 rfl]
        go_simp
      · unfold AgPost
        rw [if_neg C1.out, if_neg C2.out]
        exact ⟨rfl, HBF.out⟩
end Go.Proofs.YtcnliipkfccohabGreat
end
