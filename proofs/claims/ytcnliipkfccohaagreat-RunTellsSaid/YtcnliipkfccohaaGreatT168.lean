/- Contracts of gimletref16: the run in memory; takes. Condition: rows that stay short. And 7 texts more. -/
import Derived.Test.YtcnliipkfccohaaGreatT163
import Derived.Test.YtcnliipkfccohaaGreatT160
import Derived.Deep.RegionHeld3
import Derived.Deep.DrawnRows
import Derived.BigRegion
import Derived.BigQuiet
import Derived.Deep.RegionLaw
import Derived.Deep.AppendLies
namespace Go.Proofs.YtcnliipkfccohaaGreat
end Go.Proofs.YtcnliipkfccohaaGreat
namespace Go.Proofs.YtcnliipkfccohaaGreat.SetM
end Go.Proofs.YtcnliipkfccohaaGreat.SetM
namespace Go.Proofs.YtcnliipkfccohaaGreat.SpanM
end Go.Proofs.YtcnliipkfccohaaGreat.SpanM
section
namespace Go.Proofs.YtcnliipkfccohaaGreat
open Go.ChangeShapes Go.WideShapes Go.ChangeAt Go.RowKit
open SetM SpanM
attribute [local go_sem ↓] Go.wp_at_zero Go.wp_at_succ
set_option maxRecDepth 100000
set_option linter.unusedVariables false
attribute [local go_sem] later_cell later_frozen
structure Rn where
  W0 : World
  rb : Nat
  cA : Option Addr
  cc : Nat
  oA : Option Addr
  oc : Nat
  cs : List ByteArray
  ps : List Nat
  fold : Bool
structure RnI (Z : Rn) (w : World) (f : Nat) (out : Bool) : Prop where
  bW : Below Z.W0.heap.size Z.W0 w
  hrb : Z.W0.heap.size ≤ Z.rb
  cm : Cm w Z.rb [.slice Z.cA Z.cs.length Z.cc, .slice Z.oA Z.ps.length Z.oc, .bool Z.fold, .int .i64 ((f : Nat) : Int), .bool out]
  cs : w.ownsRow 0 9 1 (.slice Z.cA Z.cs.length Z.cc) Z.cs.length (Z.cs.map .string)
  cn : (Value.slice Z.cA Z.cs.length Z.cc).ownBlock ≠ some Z.rb
  os : w.ownsRow 0 3 1 (.slice Z.oA Z.ps.length Z.oc) Z.ps.length (natC Z.ps)
  on : (Value.slice Z.oA Z.ps.length Z.oc).ownBlock ≠ some Z.rb
structure Rn.Ok (Z : Rn) : Prop where
  len : Z.cs.length + 1 = Z.ps.length
  max : Z.ps.length ≤ 1000
  sz : ∀ c ∈ Z.cs, c.size ≤ 1000
def edR (cs : List ByteArray) (i : Nat) : Bool := (decide (0 < i) && wdB (cs.getD (i - 1) ⟨#[]⟩).data.toList) != (decide (i < cs.length) && wdB (cs.getD i ⟨#[]⟩).data.toList)
def tkR (cs : List ByteArray) (fold : Bool) (x : Rt) (i : Nat) : Option Nat :=
  if x.k = 8 then (if i = 0 then some 0 else none)
  else if x.k = 9 then (if i = cs.length then some 0 else none)
  else if x.k = 10 then (if edR cs i = true then some 0 else none)
  else if x.k = 11 then (if edR cs i = true then none else some 0)
  else if i < cs.length then (if accB fold x (cs.getD i ⟨#[]⟩) = true then some 1 else none)
  else none
section
variable {Z : Rn} {w w' : World} {f : Nat} {out : Bool}
theorem RnI.at (h : RnI Z w f out) (h0 : 0 < Z.cs.length) : ∃ g, Z.cA = some ⟨g, 0, none⟩ ∧ ∀ i (hi : i < Z.cs.length), w.cell? ⟨g, i, none⟩ = some (.string (Z.cs.getD i ⟨#[]⟩)) := by
  rcases own_form h.cs with ⟨_, h1, _⟩ | ⟨g, c', hv, _, _, _, _, hc⟩
  · omega
  · injection hv with hv _ _
    refine ⟨g, hv, fun i hi => hc i _ ?_⟩
    rw [List.getElem?_map, List.getElem?_eq_getElem hi, List.getD_eq_getElem?_getD, List.getElem?_eq_getElem hi]
    rfl
theorem RnI.bl (h : RnI Z w f out) (hb : Below w.heap.size w w') : RnI Z w' f out :=
  ⟨bl_trans h.bW hb, h.hrb, h.cm.bl hb, own_below h.cs hb, h.cn, own_below h.os hb, h.on⟩
def RtPost (Z : Rn) (x : Rt) (i : Nat) (w : World) (e : Ending) (w' : World) : Prop := ∃ (m : Nat) (ok : Bool), e = .returned (.tuple #[.int .i64 ((m : Nat) : Int), .bool ok]) ∧ Below w.heap.size w w' ∧ tkR Z.cs Z.fold x i = (if ok = true then some m else none)
set_option maxHeartbeats 4000000 in
theorem rtakes_any (hZ : Z.Ok) (h : RnI Z w f out) {x : Rt} (hx : RxAt Z.W0 x) (hsz : sM x ≤ 1000) (hk : x.k = 2 ∨ x.k = 3 ∨ x.k = 4 ∨ x.k = 8 ∨ x.k = 9 ∨ x.k = 10 ∨ x.k = 11) (i : Nat) (hi : i ≤ Z.cs.length) :
    Calls Tryz.prog 139 #[.pointer (some ⟨Z.rb, 0, none⟩), x.v, .int .i64 ((i : Nat) : Int)] w (RtPost Z x i w) := by
  obtain ⟨tA, tc, hkv⟩ := ksat_len hx.ks
  obtain ⟨rA, rc, hrv⟩ := rwat_len hx.rows
  have hv : x.v = .agg #[.int .i64 x.k, .string x.ch, .bool x.nt, .slice rA x.rows.length rc, .int .i64 x.mi, .int .i64 x.ma, .bool x.lz, .slice tA x.kids.length tc] := by unfold Rt.v Rt.cs; rw [hkv, hrv]
  rw [hv]
  have y0 : w.cell? ⟨Z.rb, 0, none⟩ = some (.slice Z.cA Z.cs.length Z.cc) := h.cm.c 0 _ rfl
  have y2 : w.cell? ⟨Z.rb, 2, none⟩ = some (.bool Z.fold) := h.cm.c 2 _ rfl
  have lt1 := h.cm.s
  have hne : w.heap.size ≠ Z.rb := by omega
  have hlen : Z.cs.length ≤ 1000 := by have := hZ.len; have := hZ.max; omega
  have HIL := hide hi
  have hH := hide h
  have hrvH := hide hrv
  have HX := hide hx
  have HSZ := hide hsz
  have HZ := hide hZ
  clear hZ h hx hsz hkv hrv hv
  rcases hk with hk | hk | hk | hk | hk | hk | hk
  · have HT := hide (show tkR Z.cs Z.fold x i = (if i < Z.cs.length then (if accB Z.fold x (Z.cs.getD i ⟨#[]⟩) = true then some 1 else none) else none) by unfold tkR; rw [if_neg (by omega), if_neg (by omega), if_neg (by omega), if_neg (by omega)])
    by_cases hlt : i < Z.cs.length
    · obtain ⟨g, hg, hcl⟩ := hH.out.at (by omega)
      rw [hg] at y0
      have z0 := hcl i hlt
      have hcs : (Z.cs.getD i ⟨#[]⟩).size ≤ 1000 := by rw [List.getD_eq_getElem?_getD, List.getElem?_eq_getElem hlt]; exact HZ.out.sz _ (List.getElem_mem hlt)
      have ltg : g < w.heap.size := World.block_lt_of_cell? _ _ z0
      obtain ⟨c, hc⟩ : ∃ c, Z.cs.getD i ⟨#[]⟩ = c := ⟨_, rfl⟩
      rw [hc] at z0 hcs HT
      have HT := hide (show tkR Z.cs Z.fold x i = (if accB Z.fold x c = true then some 1 else none) by rw [HT.out, if_pos hlt])
      have d1 : decide (((Z.cs.length : Nat) : Int) ≤ ((i : Nat) : Int)) = false := decide_eq_false (by omega)
      have d1' : decide (Z.cs.length ≤ i) = false := decide_eq_false (by omega)
      have i1 : (0 : Int) ≤ (i : Int) := by omega
      have i2 : (i : Int) < (Z.cs.length : Int) := by omega
      clear hg hcl hc hi
      have HA := hide (show accB Z.fold x c = (decide (c = x.ch) || (Z.fold && decide (mapS downB c = mapS downB x.ch))) by unfold accB; rw [if_pos hk])
      have hch : x.ch.size ≤ 1000 := by have := sM_eq x; have := HSZ.out; omega
      rw [hk]
      have q10 : (c.toList == x.ch.toList) = decide (c = x.ch) := eq_lists c x.ch
      have HF1 := hide (fun W => rfolde_any c (mapS downB c) W (by omega) rfl)
      have HF2 := hide (fun W => rfolde_any x.ch (mapS downB x.ch) W (by omega) rfl)
      by_cases e1 : c = x.ch
      · have q1 : (c.toList == x.ch.toList) = true := by rw [q10]; exact decide_eq_true e1
        have HN := hide e1
        clear e1 q10
        go_enter Tryz.func139, Tryz.ntmps139
        go_wp2_with fail
        go_quiet (fail)
        go_wp2
        refine bodyPost_ret (v := .tuple #[.int .i64 ((1 : Nat) : Int), .bool true]) ?_ rfl ⟨1, true, rfl, (by repeat (first | exact bl_refl _ | assumption | refine bl_alloc ?_ _ | refine bl_drewN ?_ _ | refine bl_drew ?_ | refine bl_trans ?_ (by assumption))), by rw [HT.out, HA.out, decide_eq_true HN.out]; rfl⟩
        rw [results_tmp2 rfl]
        go_simp
      · have q1 : (c.toList == x.ch.toList) = false := by rw [q10]; exact decide_eq_false e1
        have HN := hide e1
        clear e1 q10
        obtain ⟨fo, hfo⟩ : ∃ b, Z.fold = b := ⟨_, rfl⟩
        rw [hfo] at y2 HA
        have HFO := hide hfo
        clear hfo
        cases fo with
        | false =>
          go_enter Tryz.func139, Tryz.ntmps139
          go_wp2_with fail
          go_quiet (fail)
          go_wp2
          refine bodyPost_ret (v := .tuple #[.int .i64 ((1 : Nat) : Int), .bool false]) ?_ rfl ⟨1, false, rfl, (by repeat (first | exact bl_refl _ | assumption | refine bl_alloc ?_ _ | refine bl_drewN ?_ _ | refine bl_drew ?_ | refine bl_trans ?_ (by assumption))), by rw [HT.out, HFO.out, HA.out, decide_eq_false HN.out]; rfl⟩
          rw [results_tmp2 rfl]
          go_simp
        | true =>
          obtain ⟨r, hr⟩ : ∃ r, decide (mapS downB c = mapS downB x.ch) = r := ⟨_, rfl⟩
          have q2 : ((mapS downB c).toList == (mapS downB x.ch).toList) = r := (eq_lists _ _).trans hr
          have HR := hide hr
          obtain ⟨c', hc'⟩ : ∃ c', mapS downB c = c' := ⟨_, rfl⟩
          obtain ⟨d', hd'⟩ : ∃ c', mapS downB x.ch = c' := ⟨_, rfl⟩
          rw [hc'] at q2 HF1
          rw [hd'] at q2 HF2
          clear hr hc' hd'
          go_enter Tryz.func139, Tryz.ntmps139
          go_wp2_with fail
          refine wp_region_later (by kernel_rfl) (by kernel_rfl) ?_
          repeat (go_big_quiet_step (first | (go_at_call_of 155 (Value.string c); exact later_call (HF1.out _)) | (go_at_call_of 155 (Value.string x.ch); exact later_call (HF2.out _)) | exact rfl))
          refine wpQuiet_nil ?_
          rintro w9 ⟨⟨_, hb9⟩, rfl⟩
          go_wp2
          refine bodyPost_ret (v := .tuple #[.int .i64 ((1 : Nat) : Int), .bool r]) ?_ rfl ⟨1, r, rfl, bl_trans (bl_alloc (bl_refl w) _) hb9, by rw [HT.out, HFO.out, HA.out, decide_eq_false HN.out, HR.out]; rfl⟩
          rw [results_tmp2 rfl]
          go_simp
    · have HT := hide (show tkR Z.cs Z.fold x i = none by rw [HT.out, if_neg hlt])
      obtain rfl : i = Z.cs.length := by have := HIL.out; omega
      have d1 : decide (((Z.cs.length : Nat) : Int) ≤ ((Z.cs.length : Nat) : Int)) = true := decide_eq_true (by omega)
      have d1' : decide (Z.cs.length ≤ Z.cs.length) = true := decide_eq_true (by omega)
      rw [hk]
      clear hlt hi
      go_enter Tryz.func139, Tryz.ntmps139
      go_wp2
      refine bodyPost_ret (v := .tuple #[.int .i64 ((0 : Nat) : Int), .bool false]) ?_ rfl ⟨0, false, rfl, (by repeat (first | exact bl_refl _ | assumption | refine bl_alloc ?_ _ | refine bl_drewN ?_ _ | refine bl_drew ?_ | refine bl_trans ?_ (by assumption))), by rw [HT.out]; rfl⟩
      rw [results_tmp2 rfl]
      go_simp
  · have HT := hide (show tkR Z.cs Z.fold x i = (if i < Z.cs.length then (if accB Z.fold x (Z.cs.getD i ⟨#[]⟩) = true then some 1 else none) else none) by unfold tkR; rw [if_neg (by omega), if_neg (by omega), if_neg (by omega), if_neg (by omega)])
    by_cases hlt : i < Z.cs.length
    · obtain ⟨g, hg, hcl⟩ := hH.out.at (by omega)
      rw [hg] at y0
      have z0 := hcl i hlt
      have hcs : (Z.cs.getD i ⟨#[]⟩).size ≤ 1000 := by rw [List.getD_eq_getElem?_getD, List.getElem?_eq_getElem hlt]; exact HZ.out.sz _ (List.getElem_mem hlt)
      have ltg : g < w.heap.size := World.block_lt_of_cell? _ _ z0
      obtain ⟨c, hc⟩ : ∃ c, Z.cs.getD i ⟨#[]⟩ = c := ⟨_, rfl⟩
      rw [hc] at z0 hcs HT
      have HT := hide (show tkR Z.cs Z.fold x i = (if accB Z.fold x c = true then some 1 else none) by rw [HT.out, if_pos hlt])
      have d1 : decide (((Z.cs.length : Nat) : Int) ≤ ((i : Nat) : Int)) = false := decide_eq_false (by omega)
      have d1' : decide (Z.cs.length ≤ i) = false := decide_eq_false (by omega)
      have i1 : (0 : Int) ≤ (i : Int) := by omega
      have i2 : (i : Int) < (Z.cs.length : Int) := by omega
      clear hg hcl hc hi
      have HA := hide (show accB Z.fold x c = !decide (c = ⟨#[10]⟩) by unfold accB; rw [if_neg (by omega), if_pos hk])
      have e10 : (c.toList == [10]) = decide (c = ⟨#[10]⟩) := by rw [← eq_lists c ⟨#[10]⟩, Go.ByteArray.toList_eq ⟨#[10]⟩]
      rw [hk]
      by_cases hn : c = ⟨#[10]⟩
      · have q1 : (c.toList == [10]) = true := by rw [e10]; exact decide_eq_true hn
        have HN := hide hn
        clear hn e10
        go_enter Tryz.func139, Tryz.ntmps139
        go_wp2
        refine bodyPost_ret (v := .tuple #[.int .i64 ((1 : Nat) : Int), .bool false]) ?_ rfl ⟨1, false, rfl, (by repeat (first | exact bl_refl _ | assumption | refine bl_alloc ?_ _ | refine bl_drewN ?_ _ | refine bl_drew ?_ | refine bl_trans ?_ (by assumption))), by rw [HT.out, HA.out, decide_eq_true HN.out]; rfl⟩
        rw [results_tmp2 rfl]
        go_simp
      · have q1 : (c.toList == [10]) = false := by rw [e10]; exact decide_eq_false hn
        have HN := hide hn
        clear hn e10
        go_enter Tryz.func139, Tryz.ntmps139
        go_wp2
        refine bodyPost_ret (v := .tuple #[.int .i64 ((1 : Nat) : Int), .bool true]) ?_ rfl ⟨1, true, rfl, (by repeat (first | exact bl_refl _ | assumption | refine bl_alloc ?_ _ | refine bl_drewN ?_ _ | refine bl_drew ?_ | refine bl_trans ?_ (by assumption))), by rw [HT.out, HA.out, decide_eq_false HN.out]; rfl⟩
        rw [results_tmp2 rfl]
        go_simp
    · have HT := hide (show tkR Z.cs Z.fold x i = none by rw [HT.out, if_neg hlt])
      obtain rfl : i = Z.cs.length := by have := HIL.out; omega
      have d1 : decide (((Z.cs.length : Nat) : Int) ≤ ((Z.cs.length : Nat) : Int)) = true := decide_eq_true (by omega)
      have d1' : decide (Z.cs.length ≤ Z.cs.length) = true := decide_eq_true (by omega)
      rw [hk]
      clear hlt hi
      go_enter Tryz.func139, Tryz.ntmps139
      go_wp2
      refine bodyPost_ret (v := .tuple #[.int .i64 ((0 : Nat) : Int), .bool false]) ?_ rfl ⟨0, false, rfl, (by repeat (first | exact bl_refl _ | assumption | refine bl_alloc ?_ _ | refine bl_drewN ?_ _ | refine bl_drew ?_ | refine bl_trans ?_ (by assumption))), by rw [HT.out]; rfl⟩
      rw [results_tmp2 rfl]
      go_simp
  · have HT := hide (show tkR Z.cs Z.fold x i = (if i < Z.cs.length then (if accB Z.fold x (Z.cs.getD i ⟨#[]⟩) = true then some 1 else none) else none) by unfold tkR; rw [if_neg (by omega), if_neg (by omega), if_neg (by omega), if_neg (by omega)])
    by_cases hlt : i < Z.cs.length
    · obtain ⟨g, hg, hcl⟩ := hH.out.at (by omega)
      rw [hg] at y0
      have z0 := hcl i hlt
      have hcs : (Z.cs.getD i ⟨#[]⟩).size ≤ 1000 := by rw [List.getD_eq_getElem?_getD, List.getElem?_eq_getElem hlt]; exact HZ.out.sz _ (List.getElem_mem hlt)
      have ltg : g < w.heap.size := World.block_lt_of_cell? _ _ z0
      obtain ⟨c, hc⟩ : ∃ c, Z.cs.getD i ⟨#[]⟩ = c := ⟨_, rfl⟩
      rw [hc] at z0 hcs HT
      have HT := hide (show tkR Z.cs Z.fold x i = (if accB Z.fold x c = true then some 1 else none) by rw [HT.out, if_pos hlt])
      have d1 : decide (((Z.cs.length : Nat) : Int) ≤ ((i : Nat) : Int)) = false := decide_eq_false (by omega)
      have d1' : decide (Z.cs.length ≤ i) = false := decide_eq_false (by omega)
      have i1 : (0 : Int) ≤ (i : Int) := by omega
      have i2 : (i : Int) < (Z.cs.length : Int) := by omega
      clear hg hcl hc hi
      have HA := hide (show accB Z.fold x c = hasF x.rows x.nt Z.fold c by unfold accB; rw [if_neg (by omega), if_neg (by omega)])
      rw [hk]
      obtain ⟨r, hr⟩ : ∃ r, hasF x.rows x.nt Z.fold c = r := ⟨_, rfl⟩
      have HRW := hide (rwat_below HX.out.rows hH.out.bW)
      rw [hrvH.out] at HRW
      have HH := hide (fun W (hb : Below w.heap.size w W) => rhass_any _ x.rows x.nt Z.fold c r W (rwat_below HRW.out hb) (by have := rwS_len x.rows; have := sM_eq x; have := HSZ.out; omega) (by omega) hr)
      have HR := hide hr
      clear hr
      go_enter Tryz.func139, Tryz.ntmps139
      go_wp2_with fail
      refine wp_region_later (by kernel_rfl) (by kernel_rfl) ?_
      repeat (go_big_quiet_step (first | (go_at_call 154; exact later_call (HH.out _ (by repeat (first | exact bl_refl _ | exact bl_alloc (bl_refl _) _ | assumption | exact bl_trans (bl_alloc (bl_refl _) _) (Later.below _))))) | exact rfl))
      refine wpQuiet_nil ?_
      rintro w9 ⟨⟨_, hb9⟩, rfl⟩
      go_wp2
      refine bodyPost_ret (v := .tuple #[.int .i64 ((1 : Nat) : Int), .bool r]) ?_ rfl ⟨1, r, rfl, bl_trans (bl_alloc (bl_refl w) _) hb9, by rw [HT.out, HA.out, HR.out]⟩
      rw [results_tmp2 rfl]
      go_simp
    · have HT := hide (show tkR Z.cs Z.fold x i = none by rw [HT.out, if_neg hlt])
      obtain rfl : i = Z.cs.length := by have := HIL.out; omega
      have d1 : decide (((Z.cs.length : Nat) : Int) ≤ ((Z.cs.length : Nat) : Int)) = true := decide_eq_true (by omega)
      have d1' : decide (Z.cs.length ≤ Z.cs.length) = true := decide_eq_true (by omega)
      rw [hk]
      clear hlt hi
      go_enter Tryz.func139, Tryz.ntmps139
      go_wp2
      refine bodyPost_ret (v := .tuple #[.int .i64 ((0 : Nat) : Int), .bool false]) ?_ rfl ⟨0, false, rfl, (by repeat (first | exact bl_refl _ | assumption | refine bl_alloc ?_ _ | refine bl_drewN ?_ _ | refine bl_drew ?_ | refine bl_trans ?_ (by assumption))), by rw [HT.out]; rfl⟩
      rw [results_tmp2 rfl]
      go_simp
  · have HT := hide (show tkR Z.cs Z.fold x i = (if i = 0 then some 0 else none) by unfold tkR; rw [if_pos hk])
    rw [hk]
    by_cases h0 : i = 0
    · subst h0
      clear hi
      go_enter Tryz.func139, Tryz.ntmps139
      go_wp2
      refine bodyPost_ret (v := .tuple #[.int .i64 ((0 : Nat) : Int), .bool true]) ?_ rfl ⟨0, true, rfl, (by repeat (first | exact bl_refl _ | assumption | refine bl_alloc ?_ _ | refine bl_drewN ?_ _ | refine bl_drew ?_ | refine bl_trans ?_ (by assumption))), by rw [HT.out]; rfl⟩
      rw [results_tmp2 rfl]
      go_simp
    · have d0 : ((i : Int) == 0) = false := by simpa using h0
      have d0' : (i == 0) = false := by simpa using h0
      have HN := hide h0
      clear hi h0
      go_enter Tryz.func139, Tryz.ntmps139
      go_wp2
      refine bodyPost_ret (v := .tuple #[.int .i64 ((0 : Nat) : Int), .bool false]) ?_ rfl ⟨0, false, rfl, (by repeat (first | exact bl_refl _ | assumption | refine bl_alloc ?_ _ | refine bl_drewN ?_ _ | refine bl_drew ?_ | refine bl_trans ?_ (by assumption))), by rw [HT.out, if_neg HN.out]; rfl⟩
      rw [results_tmp2 rfl]
      go_simp
  · have HT := hide (show tkR Z.cs Z.fold x i = (if i = Z.cs.length then some 0 else none) by unfold tkR; rw [if_neg (by omega), if_pos hk])
    rw [hk]
    by_cases h0 : i = Z.cs.length
    · have d0 : ((i : Int) == (Z.cs.length : Int)) = true := by rw [h0]; simp
      have d0' : (i == Z.cs.length) = true := by simpa using h0
      have HN := hide h0
      clear hi h0
      go_enter Tryz.func139, Tryz.ntmps139
      go_wp2_with fail
      go_quiet (fail)
      go_wp2
      refine bodyPost_ret (v := .tuple #[.int .i64 ((0 : Nat) : Int), .bool true]) ?_ rfl ⟨0, true, rfl, (by repeat (first | exact bl_refl _ | assumption | refine bl_alloc ?_ _ | refine bl_drewN ?_ _ | refine bl_drew ?_ | refine bl_trans ?_ (by assumption))), by rw [HT.out, if_pos HN.out]; rfl⟩
      rw [results_tmp2 rfl]
      go_simp
    · have d0 : ((i : Int) == (Z.cs.length : Int)) = false := beq_eq_false_iff_ne.2 (by omega)
      have d0' : (i == Z.cs.length) = false := beq_eq_false_iff_ne.2 h0
      have HN := hide h0
      clear hi h0
      go_enter Tryz.func139, Tryz.ntmps139
      go_wp2_with fail
      go_quiet (fail)
      go_wp2
      refine bodyPost_ret (v := .tuple #[.int .i64 ((0 : Nat) : Int), .bool false]) ?_ rfl ⟨0, false, rfl, (by repeat (first | exact bl_refl _ | assumption | refine bl_alloc ?_ _ | refine bl_drewN ?_ _ | refine bl_drew ?_ | refine bl_trans ?_ (by assumption))), by rw [HT.out, if_neg HN.out]; rfl⟩
      rw [results_tmp2 rfl]
      go_simp
  · have HT := hide (show tkR Z.cs Z.fold x i = (if edR Z.cs i = true then some 0 else none) by unfold tkR; rw [if_neg (by omega), if_neg (by omega), if_pos hk])
    rw [hk]
    by_cases h0 : 0 < i
    · obtain ⟨g, hg, hcl⟩ := hH.out.at (by omega)
      rw [hg] at y0
      obtain ⟨i1, rfl⟩ : ∃ i1, i = i1 + 1 := ⟨i - 1, by omega⟩
      have z0 := hcl i1 (by omega)
      have ltg : g < w.heap.size := World.block_lt_of_cell? _ _ z0
      have d0 : decide ((0 : Int) < ((i1 : Nat) : Int) + 1) = true := decide_eq_true (by omega)
      have d0' : decide (0 < i1 + 1) = true := decide_eq_true (by omega)
      have e5 : IntKind.i64.wrap (((i1 : Nat) : Int) + 1 - 1) = (i1 : Int) := by rw [IntKind.wrap_i64]; omega
      have i1p : (0 : Int) ≤ (i1 : Int) := by omega
      have i2p : (i1 : Int) < (Z.cs.length : Int) := by omega
      obtain ⟨r1, hr1⟩ : ∃ r, wdB (Z.cs.getD i1 ⟨#[]⟩).data.toList = r := ⟨_, rfl⟩
      have HW1 := hide (fun W => rword_any (Z.cs.getD i1 ⟨#[]⟩) r1 W hr1)
      obtain ⟨c1, hc1⟩ : ∃ c, Z.cs.getD i1 ⟨#[]⟩ = c := ⟨_, rfl⟩
      rw [hc1] at z0 HW1
      by_cases h1 : i1 + 1 < Z.cs.length
      · have z1 := hcl (i1 + 1) h1
        obtain ⟨r2, hr2⟩ : ∃ r, wdB (Z.cs.getD (i1 + 1) ⟨#[]⟩).data.toList = r := ⟨_, rfl⟩
        have HW2 := hide (fun W => rword_any (Z.cs.getD (i1 + 1) ⟨#[]⟩) r2 W hr2)
        have HE := hide (show edR Z.cs (i1 + 1) = (r1 != r2) by unfold edR; rw [decide_eq_true (show 0 < i1 + 1 by omega), decide_eq_true h1, Nat.add_sub_cancel, hr1, hr2]; simp)
        obtain ⟨c2, hc2⟩ : ∃ c, Z.cs.getD (i1 + 1) ⟨#[]⟩ = c := ⟨_, rfl⟩
        rw [hc2] at z1 HW2
        have d2 : decide (((i1 : Nat) : Int) + 1 < (Z.cs.length : Int)) = true := decide_eq_true (by omega)
        have d2' : decide (i1 + 1 < Z.cs.length) = true := decide_eq_true h1
        have i3p : (0 : Int) ≤ (i1 : Int) + 1 := by omega
        have i4p : (i1 : Int) + 1 < (Z.cs.length : Int) := by omega
        clear hg hcl hr1 hc1 hr2 hc2 h0 h1 hi
        go_enter Tryz.func139, Tryz.ntmps139
        go_wp2_with fail
        refine (HW1.out _).mono ?_
        rintro e w2 ⟨rfl, hb2⟩
        have hb := bl_trans (bl_alloc (bl_refl w) _) hb2
        have y0 := cell_later hb y0
        have z1 := cell_later hb z1
        have lt1 := Nat.lt_of_lt_of_le lt1 hb.size
        have ltg := Nat.lt_of_lt_of_le ltg hb.size
        have x0 := cell_later hb2 (cells_new w [.int .i64 10, .string x.ch, .bool x.nt, .slice rA x.rows.length rc, .int .i64 x.mi, .int .i64 x.ma, .bool x.lz, .slice tA x.kids.length tc] 25 0 _ rfl)
        have HB := hide hb
        clear hb hb2
        go_wp2_with fail
        refine (HW2.out _).mono ?_
        rintro e w3 ⟨rfl, hb3⟩
        have x0 := cell_later hb3 x0
        have HB3 := hide (bl_trans HB.out hb3)
        clear hb3
        go_wp2_with fail
        go_quiet (fail)
        go_wp2
        refine bodyPost_ret (v := .tuple #[.int .i64 ((0 : Nat) : Int), .bool (r1 != r2)]) ?_ rfl ⟨0, (r1 != r2), rfl, bl_drewN (HB3.out) _, by rw [HT.out, HE.out]⟩
        rw [results_tmp2 rfl]
        cases r1 <;> cases r2 <;> (first | rfl | (go_simp; done))
      · have HE := hide (show edR Z.cs (i1 + 1) = (r1 != false) by unfold edR; rw [decide_eq_true (show 0 < i1 + 1 by omega), decide_eq_false h1, Nat.add_sub_cancel, hr1]; simp)
        have d2 : decide (((i1 : Nat) : Int) + 1 < (Z.cs.length : Int)) = false := decide_eq_false (by omega)
        have d2' : decide (i1 + 1 < Z.cs.length) = false := decide_eq_false h1
        clear hg hcl hr1 hc1 h0 h1 hi
        go_enter Tryz.func139, Tryz.ntmps139
        go_wp2_with fail
        refine (HW1.out _).mono ?_
        rintro e w2 ⟨rfl, hb2⟩
        have hb := bl_trans (bl_alloc (bl_refl w) _) hb2
        have y0 := cell_later hb y0
        have lt1 := Nat.lt_of_lt_of_le lt1 hb.size
        have x0 := cell_later hb2 (cells_new w [.int .i64 10, .string x.ch, .bool x.nt, .slice rA x.rows.length rc, .int .i64 x.mi, .int .i64 x.ma, .bool x.lz, .slice tA x.kids.length tc] 25 0 _ rfl)
        have HB := hide hb
        clear hb hb2
        go_wp2_with fail
        go_quiet (fail)
        go_wp2
        refine bodyPost_ret (v := .tuple #[.int .i64 ((0 : Nat) : Int), .bool (r1 != false)]) ?_ rfl ⟨0, (r1 != false), rfl, bl_drewN (HB.out) _, by rw [HT.out, HE.out]⟩
        rw [results_tmp2 rfl]
        cases r1 <;> (first | rfl | (go_simp; done))
    · obtain rfl : i = 0 := by omega
      by_cases h1 : 0 < Z.cs.length
      · obtain ⟨g, hg, hcl⟩ := hH.out.at h1
        rw [hg] at y0
        have z1 := hcl 0 h1
        have ltg : g < w.heap.size := World.block_lt_of_cell? _ _ z1
        obtain ⟨r2, hr2⟩ : ∃ r, wdB (Z.cs.getD 0 ⟨#[]⟩).data.toList = r := ⟨_, rfl⟩
        have HW2 := hide (fun W => rword_any (Z.cs.getD 0 ⟨#[]⟩) r2 W hr2)
        have HE := hide (show edR Z.cs 0 = (false != r2) by unfold edR; rw [decide_eq_false (show ¬ 0 < 0 by omega), decide_eq_true h1, hr2]; simp)
        obtain ⟨c2, hc2⟩ : ∃ c, Z.cs.getD 0 ⟨#[]⟩ = c := ⟨_, rfl⟩
        rw [hc2] at z1 HW2
        have d2 : decide ((0 : Int) < (Z.cs.length : Int)) = true := decide_eq_true (by omega)
        have d2' : decide (0 < Z.cs.length) = true := decide_eq_true h1
        have i4p : (0 : Int) < (Z.cs.length : Int) := by omega
        clear hg hcl hr2 hc2 h0 h1 hi
        go_enter Tryz.func139, Tryz.ntmps139
        go_wp2_with fail
        refine (HW2.out _).mono ?_
        rintro e w3 ⟨rfl, hb3⟩
        have x0 := cell_later hb3 (cells_new w [.int .i64 10, .string x.ch, .bool x.nt, .slice rA x.rows.length rc, .int .i64 x.mi, .int .i64 x.ma, .bool x.lz, .slice tA x.kids.length tc] 25 0 _ rfl)
        have HB3 := hide (bl_trans (bl_alloc (bl_refl w) _) hb3)
        clear hb3
        go_wp2_with fail
        go_quiet (fail)
        go_wp2
        refine bodyPost_ret (v := .tuple #[.int .i64 ((0 : Nat) : Int), .bool (false != r2)]) ?_ rfl ⟨0, (false != r2), rfl, bl_drewN (HB3.out) _, by rw [HT.out, HE.out]⟩
        rw [results_tmp2 rfl]
        cases r2 <;> (first | rfl | (go_simp; done))
      · have HE := hide (show edR Z.cs 0 = false by unfold edR; rw [decide_eq_false (show ¬ 0 < 0 by omega), decide_eq_false h1]; rfl)
        have d2 : decide ((0 : Int) < (Z.cs.length : Int)) = false := decide_eq_false (by omega)
        have d2' : decide (0 < Z.cs.length) = false := decide_eq_false h1
        clear h0 h1 hi
        go_enter Tryz.func139, Tryz.ntmps139
        go_wp2_with fail
        go_quiet (fail)
        go_wp2
        refine bodyPost_ret (v := .tuple #[.int .i64 ((0 : Nat) : Int), .bool false]) ?_ rfl ⟨0, false, rfl, bl_drewN (bl_alloc (bl_refl w) _) _, by rw [HT.out, HE.out]⟩
        rw [results_tmp2 rfl]
        (first | rfl | (go_simp; done))
  · have HT := hide (show tkR Z.cs Z.fold x i = (if edR Z.cs i = true then none else some 0) by unfold tkR; rw [if_neg (by omega), if_neg (by omega), if_neg (by omega), if_pos hk])
    rw [hk]
    by_cases h0 : 0 < i
    · obtain ⟨g, hg, hcl⟩ := hH.out.at (by omega)
      rw [hg] at y0
      obtain ⟨i1, rfl⟩ : ∃ i1, i = i1 + 1 := ⟨i - 1, by omega⟩
      have z0 := hcl i1 (by omega)
      have ltg : g < w.heap.size := World.block_lt_of_cell? _ _ z0
      have d0 : decide ((0 : Int) < ((i1 : Nat) : Int) + 1) = true := decide_eq_true (by omega)
      have d0' : decide (0 < i1 + 1) = true := decide_eq_true (by omega)
      have e5 : IntKind.i64.wrap (((i1 : Nat) : Int) + 1 - 1) = (i1 : Int) := by rw [IntKind.wrap_i64]; omega
      have i1p : (0 : Int) ≤ (i1 : Int) := by omega
      have i2p : (i1 : Int) < (Z.cs.length : Int) := by omega
      obtain ⟨r1, hr1⟩ : ∃ r, wdB (Z.cs.getD i1 ⟨#[]⟩).data.toList = r := ⟨_, rfl⟩
      have HW1 := hide (fun W => rword_any (Z.cs.getD i1 ⟨#[]⟩) r1 W hr1)
      obtain ⟨c1, hc1⟩ : ∃ c, Z.cs.getD i1 ⟨#[]⟩ = c := ⟨_, rfl⟩
      rw [hc1] at z0 HW1
      by_cases h1 : i1 + 1 < Z.cs.length
      · have z1 := hcl (i1 + 1) h1
        obtain ⟨r2, hr2⟩ : ∃ r, wdB (Z.cs.getD (i1 + 1) ⟨#[]⟩).data.toList = r := ⟨_, rfl⟩
        have HW2 := hide (fun W => rword_any (Z.cs.getD (i1 + 1) ⟨#[]⟩) r2 W hr2)
        have HE := hide (show edR Z.cs (i1 + 1) = (r1 != r2) by unfold edR; rw [decide_eq_true (show 0 < i1 + 1 by omega), decide_eq_true h1, Nat.add_sub_cancel, hr1, hr2]; simp)
        obtain ⟨c2, hc2⟩ : ∃ c, Z.cs.getD (i1 + 1) ⟨#[]⟩ = c := ⟨_, rfl⟩
        rw [hc2] at z1 HW2
        have d2 : decide (((i1 : Nat) : Int) + 1 < (Z.cs.length : Int)) = true := decide_eq_true (by omega)
        have d2' : decide (i1 + 1 < Z.cs.length) = true := decide_eq_true h1
        have i3p : (0 : Int) ≤ (i1 : Int) + 1 := by omega
        have i4p : (i1 : Int) + 1 < (Z.cs.length : Int) := by omega
        clear hg hcl hr1 hc1 hr2 hc2 h0 h1 hi
        go_enter Tryz.func139, Tryz.ntmps139
        go_wp2_with fail
        refine (HW1.out _).mono ?_
        rintro e w2 ⟨rfl, hb2⟩
        have hb := bl_trans (bl_alloc (bl_refl w) _) hb2
        have y0 := cell_later hb y0
        have z1 := cell_later hb z1
        have lt1 := Nat.lt_of_lt_of_le lt1 hb.size
        have ltg := Nat.lt_of_lt_of_le ltg hb.size
        have x0 := cell_later hb2 (cells_new w [.int .i64 11, .string x.ch, .bool x.nt, .slice rA x.rows.length rc, .int .i64 x.mi, .int .i64 x.ma, .bool x.lz, .slice tA x.kids.length tc] 25 0 _ rfl)
        have HB := hide hb
        clear hb hb2
        go_wp2_with fail
        refine (HW2.out _).mono ?_
        rintro e w3 ⟨rfl, hb3⟩
        have x0 := cell_later hb3 x0
        have HB3 := hide (bl_trans HB.out hb3)
        clear hb3
        go_wp2_with fail
        go_quiet (fail)
        go_wp2
        refine bodyPost_ret (v := .tuple #[.int .i64 ((0 : Nat) : Int), .bool (!(r1 != r2))]) ?_ rfl ⟨0, (!(r1 != r2)), rfl, bl_drewN (HB3.out) _, by rw [HT.out, HE.out]; cases r1 <;> cases r2 <;> rfl⟩
        rw [results_tmp2 rfl]
        cases r1 <;> cases r2 <;> (first | rfl | (go_simp; done))
      · have HE := hide (show edR Z.cs (i1 + 1) = (r1 != false) by unfold edR; rw [decide_eq_true (show 0 < i1 + 1 by omega), decide_eq_false h1, Nat.add_sub_cancel, hr1]; simp)
        have d2 : decide (((i1 : Nat) : Int) + 1 < (Z.cs.length : Int)) = false := decide_eq_false (by omega)
        have d2' : decide (i1 + 1 < Z.cs.length) = false := decide_eq_false h1
        clear hg hcl hr1 hc1 h0 h1 hi
        go_enter Tryz.func139, Tryz.ntmps139
        go_wp2_with fail
        refine (HW1.out _).mono ?_
        rintro e w2 ⟨rfl, hb2⟩
        have hb := bl_trans (bl_alloc (bl_refl w) _) hb2
        have y0 := cell_later hb y0
        have lt1 := Nat.lt_of_lt_of_le lt1 hb.size
        have x0 := cell_later hb2 (cells_new w [.int .i64 11, .string x.ch, .bool x.nt, .slice rA x.rows.length rc, .int .i64 x.mi, .int .i64 x.ma, .bool x.lz, .slice tA x.kids.length tc] 25 0 _ rfl)
        have HB := hide hb
        clear hb hb2
        go_wp2_with fail
        go_quiet (fail)
        go_wp2
        refine bodyPost_ret (v := .tuple #[.int .i64 ((0 : Nat) : Int), .bool (!(r1 != false))]) ?_ rfl ⟨0, (!(r1 != false)), rfl, bl_drewN (HB.out) _, by rw [HT.out, HE.out]; cases r1 <;> rfl⟩
        rw [results_tmp2 rfl]
        cases r1 <;> (first | rfl | (go_simp; done))
    · obtain rfl : i = 0 := by omega
      by_cases h1 : 0 < Z.cs.length
      · obtain ⟨g, hg, hcl⟩ := hH.out.at h1
        rw [hg] at y0
        have z1 := hcl 0 h1
        have ltg : g < w.heap.size := World.block_lt_of_cell? _ _ z1
        obtain ⟨r2, hr2⟩ : ∃ r, wdB (Z.cs.getD 0 ⟨#[]⟩).data.toList = r := ⟨_, rfl⟩
        have HW2 := hide (fun W => rword_any (Z.cs.getD 0 ⟨#[]⟩) r2 W hr2)
        have HE := hide (show edR Z.cs 0 = (false != r2) by unfold edR; rw [decide_eq_false (show ¬ 0 < 0 by omega), decide_eq_true h1, hr2]; simp)
        obtain ⟨c2, hc2⟩ : ∃ c, Z.cs.getD 0 ⟨#[]⟩ = c := ⟨_, rfl⟩
        rw [hc2] at z1 HW2
        have d2 : decide ((0 : Int) < (Z.cs.length : Int)) = true := decide_eq_true (by omega)
        have d2' : decide (0 < Z.cs.length) = true := decide_eq_true h1
        have i4p : (0 : Int) < (Z.cs.length : Int) := by omega
        clear hg hcl hr2 hc2 h0 h1 hi
        go_enter Tryz.func139, Tryz.ntmps139
        go_wp2_with fail
        refine (HW2.out _).mono ?_
        rintro e w3 ⟨rfl, hb3⟩
        have x0 := cell_later hb3 (cells_new w [.int .i64 11, .string x.ch, .bool x.nt, .slice rA x.rows.length rc, .int .i64 x.mi, .int .i64 x.ma, .bool x.lz, .slice tA x.kids.length tc] 25 0 _ rfl)
        have HB3 := hide (bl_trans (bl_alloc (bl_refl w) _) hb3)
        clear hb3
        go_wp2_with fail
        go_quiet (fail)
        go_wp2
        refine bodyPost_ret (v := .tuple #[.int .i64 ((0 : Nat) : Int), .bool (!(false != r2))]) ?_ rfl ⟨0, (!(false != r2)), rfl, bl_drewN (HB3.out) _, by rw [HT.out, HE.out]; cases r2 <;> rfl⟩
        rw [results_tmp2 rfl]
        cases r2 <;> (first | rfl | (go_simp; done))
      · have HE := hide (show edR Z.cs 0 = false by unfold edR; rw [decide_eq_false (show ¬ 0 < 0 by omega), decide_eq_false h1]; rfl)
        have d2 : decide ((0 : Int) < (Z.cs.length : Int)) = false := decide_eq_false (by omega)
        have d2' : decide (0 < Z.cs.length) = false := decide_eq_false h1
        clear h0 h1 hi
        go_enter Tryz.func139, Tryz.ntmps139
        go_wp2_with fail
        go_quiet (fail)
        go_wp2
        refine bodyPost_ret (v := .tuple #[.int .i64 ((0 : Nat) : Int), .bool (!false)]) ?_ rfl ⟨0, (!false), rfl, bl_drewN (bl_alloc (bl_refl w) _) _, by rw [HT.out, HE.out]; rfl⟩
        rw [results_tmp2 rfl]
        (first | rfl | (go_simp; done))
end
end Go.Proofs.YtcnliipkfccohaaGreat
end
section
namespace Go.Proofs.YtcnliipkfccohaaGreat
open Go.ChangeShapes Go.WideShapes Go.ChangeAt Go.RowKit
open SetM SpanM
attribute [local go_sem ↓] Go.wp_at_zero Go.wp_at_succ
set_option maxRecDepth 100000
set_option linter.unusedVariables false
attribute [local go_sem] later_cell later_frozen
def KtOk (np i : Nat) : Kt → Prop
  | .hold x g => XOk np x g
  | .ended g b => g < np ∧ b ≤ i
  | .again x g m b => XOk np x g ∧ x.k = 7 ∧ 1 ≤ m ∧ m ≤ x.mi.toNat + b + 1 ∧ b ≤ i
theorem KtOk.up {np i j : Nat} {t : Kt} (h : KtOk np i t) (hj : i ≤ j) : KtOk np j t := by
  cases t with
  | hold x g => exact h
  | ended g b => exact ⟨h.1, Nat.le_trans h.2 hj⟩
  | again x g m b => exact ⟨h.1, h.2.1, h.2.2.1, h.2.2.2.1, Nat.le_trans h.2.2.2.2 hj⟩
inductive NxAt (W0 : World) (rb : Nat) (w : World) : Value → List Kt → Prop
  | nil : NxAt W0 rb w (.pointer none) []
  | hold (b : Nat) (x : Rt) (g : Nat) (ks : List Kt) (rv : Value) (m fr : Int) (hb : b ≠ rb) (hx : RxAt W0 x)
      (hc : ∀ j u, ([.int .i64 0] ++ x.cs ++ [.int .i64 ((g : Nat) : Int), .int .i64 m, .int .i64 fr, rv] : List Value)[j]? = some u → w.cell? ⟨b, j, none⟩ = some u) (h : NxAt W0 rb w rv ks) : NxAt W0 rb w (.pointer (some ⟨b, 0, none⟩)) (.hold x g :: ks)
  | ended (b : Nat) (y : Rt) (g fr : Nat) (ks : List Kt) (rv : Value) (m : Int) (hb : b ≠ rb)
      (hc : ∀ j u, ([.int .i64 1] ++ y.cs ++ [.int .i64 ((g : Nat) : Int), .int .i64 m, .int .i64 ((fr : Nat) : Int), rv] : List Value)[j]? = some u → w.cell? ⟨b, j, none⟩ = some u) (h : NxAt W0 rb w rv ks) : NxAt W0 rb w (.pointer (some ⟨b, 0, none⟩)) (.ended g fr :: ks)
  | again (b : Nat) (x : Rt) (g m fr : Nat) (ks : List Kt) (rv : Value) (hb : b ≠ rb) (hx : RxAt W0 x)
      (hc : ∀ j u, ([.int .i64 2] ++ x.cs ++ [.int .i64 ((g : Nat) : Int), .int .i64 ((m : Nat) : Int), .int .i64 ((fr : Nat) : Int), rv] : List Value)[j]? = some u → w.cell? ⟨b, j, none⟩ = some u) (h : NxAt W0 rb w rv ks) : NxAt W0 rb w (.pointer (some ⟨b, 0, none⟩)) (.again x g m fr :: ks)
theorem NxAt.gr {W0 : World} {rb : Nat} {w w' : World} {v : Value} {ks : List Kt} (h : NxAt W0 rb w v ks) (hg : w.grownBy w' (some rb)) : NxAt W0 rb w' v ks := by
  induction h with
  | nil => exact .nil
  | hold b x g ks rv m fr hb hx hc h ih => exact .hold b x g ks rv m fr hb hx (fun j u hu => cell_gr hg (fun e => hb (by injection e with e; exact e.symm)) (hc j u hu)) ih
  | ended b y g fr ks rv m hb hc h ih => exact .ended b y g fr ks rv m hb (fun j u hu => cell_gr hg (fun e => hb (by injection e with e; exact e.symm)) (hc j u hu)) ih
  | again b x g m fr ks rv hb hx hc h ih => exact .again b x g m fr ks rv hb hx (fun j u hu => cell_gr hg (fun e => hb (by injection e with e; exact e.symm)) (hc j u hu)) ih
theorem NxAt.bl {W0 : World} {rb : Nat} {w w' : World} {v : Value} {ks : List Kt} (h : NxAt W0 rb w v ks) (hb : Below w.heap.size w w') : NxAt W0 rb w' v ks := h.gr (gr_bl hb _)
theorem NxAt.ptr {W0 : World} {rb : Nat} {w : World} {v : Value} {ks : List Kt} (h : NxAt W0 rb w v ks) : ∃ a, v = .pointer a := by
  cases h <;> exact ⟨_, rfl⟩
theorem gr_trans {w w1 w2 : World} {row : Option Nat} (h1 : w.grownBy w1 row) (h2 : w1.grownBy w2 row) : w.grownBy w2 row :=
  ⟨h2.os.trans h1.os, h2.tape.trans h1.tape, h2.output.trans h1.output, Nat.le_trans h1.size h2.size, fun k hk hn => (h2.block k (Nat.lt_of_lt_of_le hk h1.size) hn).trans (h1.block k hk hn)⟩
def PaAt (rb : Nat) (w : World) (v : Value) (p : List (Int × Int)) : Prop := w.ownsRow 0 29 2 v p.length (flat p) ∧ v.ownBlock ≠ some rb
theorem PaAt.gr {rb : Nat} {w w' : World} {v : Value} {p : List (Int × Int)} (h : PaAt rb w v p) (hg : w.grownBy w' (some rb)) : PaAt rb w' v p :=
  ⟨row_kept h.1 hg (fun k hk e => h.2 (by rw [e, ← hk])), h.2⟩
theorem PaAt.bl {rb : Nat} {w w' : World} {v : Value} {p : List (Int × Int)} (h : PaAt rb w v p) (hb : Below w.heap.size w w') : PaAt rb w' v p := h.gr (gr_bl hb _)
def NrPost (Z : Rn) (r : Ro) (w : World) (e : Ending) (w' : World) : Prop := w.grownBy w' (some Z.rb) ∧ match r with
  | .found j p f => ∃ v, e = .returned (.tuple #[.int .i64 ((j : Nat) : Int), v, .bool true]) ∧ RnI Z w' f false ∧ PaAt Z.rb w' v p
  | .fail f => e = .returned (.tuple #[.int .i64 0, .slice none 0 0, .bool false]) ∧ RnI Z w' f false
  | .dry => e = .returned (.tuple #[.int .i64 0, .slice none 0 0, .bool false]) ∧ RnI Z w' 0 true
theorem NrPost.from {Z : Rn} {r : Ro} {w w1 w' : World} {e : Ending} (h : NrPost Z r w1 e w') (hg : w.grownBy w1 (some Z.rb)) : NrPost Z r w e w' := ⟨gr_trans hg h.1, h.2⟩
theorem NrPost.form {Z : Rn} {r : Ro} {w w' : World} {e : Ending} (h : NrPost Z r w e w') : ∃ (a : Int) (A : Option Addr) (n c : Nat) (ok : Bool), e = .returned (.tuple #[.int .i64 a, .slice A n c, .bool ok]) := by
  cases r with
  | found j p f =>
    obtain ⟨_, v, rfl, _, hp⟩ := h
    obtain ⟨A, c, rfl⟩ := own_slice hp.1
    exact ⟨_, _, _, _, _, rfl⟩
  | fail f => obtain ⟨_, rfl, _⟩ := h; exact ⟨_, _, _, _, _, rfl⟩
  | dry => obtain ⟨_, rfl, _⟩ := h; exact ⟨_, _, _, _, _, rfl⟩
def OnC (Z : Rn) (f : Nat) (ks : List Kt) (i : Nat) (p : List (Int × Int)) (r : Ro) : Prop :=
  ∀ (w : World) (kv v : Value), RnI Z w f false → NxAt Z.W0 Z.rb w kv ks → PaAt Z.rb w v p → i ≤ Z.cs.length → p.length ≤ 512 → (∀ t ∈ ks, KtOk p.length i t) → f ≤ 20000 →
    Calls Tryz.prog 78 #[.pointer (some ⟨Z.rb, 0, none⟩), kv, .int .i64 ((i : Nat) : Int), v] w (NrPost Z r w)
def RpAt (Z : Rn) (w : World) (b : Nat) (x : Rt) (g m : Nat) (rv : Value) : Prop := b ≠ Z.rb ∧ RxAt Z.W0 x ∧ ∃ kd fr : Int, ∀ j u, ([.int .i64 kd] ++ x.cs ++ [.int .i64 ((g : Nat) : Int), .int .i64 ((m : Nat) : Int), .int .i64 fr, rv] : List Value)[j]? = some u → w.cell? ⟨b, j, none⟩ = some u
def RpC (Z : Rn) (f : Nat) (x : Rt) (g m : Nat) (ks : List Kt) (i : Nat) (p : List (Int × Int)) (r : Ro) : Prop :=
  ∀ (w : World) (b : Nat) (rv v : Value), RnI Z w f false → RpAt Z w b x g m rv → NxAt Z.W0 Z.rb w rv ks → PaAt Z.rb w v p → i ≤ Z.cs.length → p.length ≤ 512 → (∀ t ∈ ks, KtOk p.length i t) → XOk p.length x g → x.k = 7 → m ≤ x.mi.toNat + i → f ≤ 20000 →
    Calls Tryz.prog 109 #[.pointer (some ⟨Z.rb, 0, none⟩), .pointer (some ⟨b, 0, none⟩), .int .i64 ((i : Nat) : Int), v] w (NrPost Z r w)
theorem results_tmp3' {fn : Func} {a b c : Tmp} (h : fn.results = #[.tmp a, .tmp b, .tmp c]) (tmps : Array Value) (P : Program) (w : World) :
    (results fn tmps).run P w = .ok (.tuple #[tmps.getD a undef, tmps.getD b undef, tmps.getD c undef]) w := results_tmp3 h tmps P w
section
variable {Z : Rn}
set_option maxHeartbeats 2000000 in
theorem on_nil (f i : Nat) (p : List (Int × Int)) : OnC Z f [] i p (.found i p f) := by
  intro w kv v hR hN hP hi hp hk hf
  cases hN
  obtain ⟨A, c, rfl⟩ := own_slice hP.1
  have HFIN := hide (show NrPost Z (.found i p f) w (.returned (.tuple #[.int .i64 ((i : Nat) : Int), .slice A p.length c, .bool true])) w from ⟨grown_refl w _, _, rfl, hR, hP⟩)
  clear hR hP hk hf hp hi
  go_enter Tryz.func78, Tryz.ntmps78
  go_wp2_with fail
  refine bodyPost_ret (v := .tuple #[.int .i64 ((i : Nat) : Int), .slice A p.length c, .bool true]) ?_ rfl HFIN.out
  rw [results_tmp3 rfl]
  go_simp
set_option maxHeartbeats 4000000 in
theorem on_stuck (f : Nat) (x : Rt) (g m b : Nat) (ks : List Kt) (i : Nat) (p : List (Int × Int)) (h1 : x.mi < ((m : Nat) : Int)) (h2 : i = b) : OnC Z f (.again x g m b :: ks) i p (.fail f) := by
  intro w kv v hR hN hP hi hp hk hf
  cases hN with
  | again q _ _ _ _ _ rv hq hx hc hT =>
    obtain ⟨A, c, rfl⟩ := own_slice hP.1
    have x0 : w.cell? ⟨q, 0, none⟩ = some (.int .i64 2) := hc 0 _ rfl
    have x10 : w.cell? ⟨q, 10, none⟩ = some (.int .i64 ((m : Nat) : Int)) := hc 10 _ rfl
    have x5 : w.cell? ⟨q, 5, none⟩ = some (.int .i64 x.mi) := hc 5 _ rfl
    have x11 : w.cell? ⟨q, 11, none⟩ = some (.int .i64 ((b : Nat) : Int)) := hc 11 _ rfl
    have d1 : decide (x.mi < ((m : Nat) : Int)) = true := decide_eq_true h1
    subst h2
    have HFIN := hide (fun (W : World) (hb : Below w.heap.size w W) => (show NrPost Z (.fail f) w (.returned (.tuple #[.int .i64 0, .slice none 0 0, .bool false])) W from ⟨gr_bl hb _, rfl, hR.bl hb⟩))
    clear hR hP hk hf hp hi hc hT h1
    go_enter Tryz.func78, Tryz.ntmps78
    go_wp2_with fail
    go_quiet (fail)
    go_wp2
    refine bodyPost_ret (v := .tuple #[.int .i64 0, .slice none 0 0, .bool false]) ?_ rfl (HFIN.out _ (bl_drewN (bl_refl w) _))
    rw [results_tmp3 rfl]
    go_simp
set_option maxHeartbeats 4000000 in
theorem on_again (f : Nat) (x : Rt) (g m b : Nat) (ks : List Kt) (i : Nat) (p : List (Int × Int)) (r : Ro) (h1 : ¬ (x.mi < ((m : Nat) : Int) ∧ i = b)) (ho : RpC Z f x g m ks i p r) : OnC Z f (.again x g m b :: ks) i p r := by
  intro w kv v hR hN hP hi hp hk hf
  cases hN with
  | again q _ _ _ _ _ rv hq hx hc hT =>
    have hkt := hk _ List.mem_cons_self
    have hb0 : b ≤ i := hkt.2.2.2.2
    have hmb : m ≤ x.mi.toNat + i := by
      have h3 := hkt.2.2.2.1
      by_cases e : i = b
      · have : ¬ x.mi < ((m : Nat) : Int) := fun h => h1 ⟨h, e⟩
        omega
      · omega
    have HC := hide (fun (W : World) (hb : Below w.heap.size w W) => ho W q rv v (hR.bl hb) ⟨hq, hx, 2, b, fun j u hu => cell_later hb (hc j u hu)⟩ (hT.bl hb) (hP.bl hb) hi hp (fun t ht => hk t (List.mem_cons_of_mem _ ht)) hkt.1 hkt.2.1 hmb hf)
    have HG := hide (fun (W : World) (hb : Below w.heap.size w W) => gr_bl hb (some Z.rb))
    obtain ⟨A, c, rfl⟩ := own_slice hP.1
    have x0 : w.cell? ⟨q, 0, none⟩ = some (.int .i64 2) := hc 0 _ rfl
    have x10 : w.cell? ⟨q, 10, none⟩ = some (.int .i64 ((m : Nat) : Int)) := hc 10 _ rfl
    have x5 : w.cell? ⟨q, 5, none⟩ = some (.int .i64 x.mi) := hc 5 _ rfl
    have x11 : w.cell? ⟨q, 11, none⟩ = some (.int .i64 ((b : Nat) : Int)) := hc 11 _ rfl
    have H1 := hide h1
    clear hR hP hk hf hp hi hc hT hkt hmb hb0 h1 ho
    by_cases e1 : x.mi < ((m : Nat) : Int)
    · have d1 : decide (x.mi < ((m : Nat) : Int)) = true := decide_eq_true e1
      have e2 : ¬ i = b := fun e => H1.out ⟨e1, e⟩
      have d2 : (((i : Nat) : Int) == ((b : Nat) : Int)) = false := beq_eq_false_iff_ne.2 (by omega)
      have d2' : (i == b) = false := beq_eq_false_iff_ne.2 e2
      clear e1 e2
      go_enter Tryz.func78, Tryz.ntmps78
      go_wp2_with fail
      go_quiet (fail)
      go_wp2_with fail
      refine (HC.out _ (bl_drewN (bl_refl w) _)).mono ?_
      rintro e w3 hp3
      have HP3 := hide (hp3.from (HG.out _ (bl_drewN (bl_refl w) _)))
      obtain ⟨a4, A4, n4, c4, ok4, rfl⟩ := hp3.form
      clear hp3
      go_wp2_with fail
      refine bodyPost_ret (v := .tuple #[.int .i64 a4, .slice A4 n4 c4, .bool ok4]) ?_ rfl HP3.out
      rw [results_tmp3 rfl]
      go_simp
    · have d1 : decide (x.mi < ((m : Nat) : Int)) = false := decide_eq_false e1
      clear e1
      go_enter Tryz.func78, Tryz.ntmps78
      go_wp2_with fail
      go_quiet (fail)
      go_wp2_with fail
      refine (HC.out _ (bl_drewN (bl_refl w) _)).mono ?_
      rintro e w3 hp3
      have HP3 := hide (hp3.from (HG.out _ (bl_drewN (bl_refl w) _)))
      obtain ⟨a4, A4, n4, c4, ok4, rfl⟩ := hp3.form
      clear hp3
      go_wp2_with fail
      refine bodyPost_ret (v := .tuple #[.int .i64 a4, .slice A4 n4 c4, .bool ok4]) ?_ rfl HP3.out
      rw [results_tmp3 rfl]
      go_simp
end
end Go.Proofs.YtcnliipkfccohaaGreat
end
section
namespace Go.Proofs.YtcnliipkfccohaaGreat
open Go.ChangeShapes Go.WideShapes Go.ChangeAt Go.RowKit
open SetM SpanM
attribute [local go_sem ↓] Go.wp_at_zero Go.wp_at_succ
set_option maxRecDepth 100000
set_option linter.unusedVariables false
attribute [local go_sem] later_cell later_frozen
def Rn.of (Z : Rn) (j : Nat) : Int := ((Z.ps.getD j 0 : Nat) : Int)
theorem RnI.off {Z : Rn} {w : World} {f : Nat} {out : Bool} (h : RnI Z w f out) (h0 : 0 < Z.ps.length) : ∃ g, Z.oA = some ⟨g, 0, none⟩ ∧ ∀ i (hi : i < Z.ps.length), w.cell? ⟨g, i, none⟩ = some (.int .i64 (Z.of i)) := by
  rcases own_form h.os with ⟨_, h1, _⟩ | ⟨g, c', hv, _, _, _, _, hc⟩
  · omega
  · injection hv with hv _ _
    refine ⟨g, hv, fun i hi => hc i _ ?_⟩
    unfold Rn.of natC
    rw [List.getElem?_map, List.getElem?_eq_getElem hi, List.getD_eq_getElem?_getD, List.getElem?_eq_getElem hi]
    rfl
section
variable {Z : Rn}
set_option maxHeartbeats 4000000 in
theorem on_ended (hZ : Z.Ok) (f g b : Nat) (ks : List Kt) (i : Nat) (p : List (Int × Int)) (r : Ro) (ho : OnC Z f ks i (p.set g (Z.of b, Z.of i)) r) : OnC Z f (.ended g b :: ks) i p r := by
  intro w kv v hR hN hP hi hp hk hf
  cases hN with
  | ended q y _ _ _ rv m hq hc hT =>
    have hkt := hk _ List.mem_cons_self
    have hgp : g < p.length := hkt.1
    have hbi : b ≤ i := hkt.2
    obtain ⟨A, c, rfl⟩ := own_slice hP.1
    obtain ⟨a12, rfl⟩ := hT.ptr
    have x0 : w.cell? ⟨q, 0, none⟩ = some (.int .i64 1) := hc 0 _ rfl
    have x9 : w.cell? ⟨q, 9, none⟩ = some (.int .i64 ((g : Nat) : Int)) := hc 9 _ rfl
    have x11 : w.cell? ⟨q, 11, none⟩ = some (.int .i64 ((b : Nat) : Int)) := hc 11 _ rfl
    have x12 : w.cell? ⟨q, 12, none⟩ = some (.pointer a12) := hc 12 _ rfl
    obtain ⟨og, hog, hoc⟩ := hR.off (by have := hZ.len; omega)
    have y1 : w.cell? ⟨Z.rb, 1, none⟩ = some (.slice (some ⟨og, 0, none⟩) Z.ps.length Z.oc) := by rw [← hog]; exact hR.cm.c 1 _ rfl
    have o1 := hoc b (by have := hZ.len; omega)
    have o2 := hoc i (by have := hZ.len; omega)
    have ltq : q < w.heap.size := World.block_lt_of_cell? _ _ x0
    have ltr : Z.rb < w.heap.size := hR.cm.s
    have lto : og < w.heap.size := World.block_lt_of_cell? _ _ o1
    obtain ⟨i0, hi0, hz0', hz1, hz2⟩ := info_parts info_sp
    have HSRC := hide (fun (W : World) (hb : Below w.heap.size w W) => src_below (own_src hP.1) hb)
    have HNEW := hide (show (w.alloc (.cells #[] 29)).ownsRow w.heap.size 29 2 (.slice (some ⟨w.heap.size, 0, none⟩) 0 0) 0 [] from own_at (heap_new rfl) (Nat.le_refl _))
    have HONE := hide (show ∀ u ∈ flat p, u.oneCell' = true from flat_one p)
    have HB4 := hide (fun (W : World) (hg : (w.alloc (.cells #[] 29)).grownBy W (Value.slice (some ⟨w.heap.size, 0, none⟩) 0 0).ownBlock) => (show Below w.heap.size w W from bl_own (bl_alloc (bl_refl w) _) HNEW.out hg (Nat.le_refl _)))
    have HPL := hide (show 0 + p.length ≤ 100000000 by omega)
    have HGP := hide hgp
    have HC := hide (fun (W : World) (v' : Value) (hb : Below w.heap.size w W) (hpa : PaAt Z.rb W v' (p.set g (Z.of b, Z.of i))) => ho W _ v' (hR.bl hb) (hT.bl hb) hpa hi (by rw [List.length_set]; exact hp) (fun t ht => by rw [List.length_set]; exact hk t (List.mem_cons_of_mem _ ht)) hf)
    have i1 : (0 : Int) ≤ (g : Int) := by omega
    have i2 : (g : Int) < (p.length : Int) := by omega
    have i3 : (0 : Int) ≤ (b : Int) := by omega
    have i4 : (b : Int) < (Z.ps.length : Int) := by have := hZ.len; omega
    have i5 : (0 : Int) ≤ (i : Int) := by omega
    have i6 : (i : Int) < (Z.ps.length : Int) := by have := hZ.len; omega
    have HG := hide (fun (W : World) (hb : Below w.heap.size w W) => gr_bl hb (some Z.rb))
    clear hR hP hk hf hp hi hc hT hkt hbi hgp ho hoc hog
    go_enter Tryz.func78, Tryz.ntmps78
    go_wp2_with (at_builtin; go_must (refine wpList_src5 _ rfl _ _ 30 rfl w.heap.size 29 i0 (.agg #[.int .i64 0, .int .i64 0]) 2 16 Tryz.underlying30 hi0 hz0' hz1 hz2 rfl (by decide) (.slice (some ⟨w.heap.size, 0, none⟩) 0 0) 0 [] rfl HNEW.out A p.length c (flat p) rfl (HSRC.out _ (bl_alloc (bl_refl w) _)) HONE.out HPL.out (by decide) (by simp) ?_); intro v4 w4 hv4 hg4 h5)
    have hb4 := HB4.out w4 hg4
    rw [Nat.zero_add, List.nil_append] at hv4
    rcases own_form hv4 with ⟨_, hz, _⟩ | ⟨B, c4, rfl, hB1, hB2, hB3, _, hcell⟩
    · exact absurd hz (by have := HGP.out; omega)
    have x9 := cell_later hb4 x9
    have x11 := cell_later hb4 x11
    have x12 := cell_later hb4 x12
    have y1 := cell_later hb4 y1
    have o1 := cell_later hb4 o1
    have o2 := cell_later hb4 o2
    have b0 := hcell (g * 2) _ (flat_at p g HGP.out).1
    have b1 := hcell (g * 2 + 1) _ (flat_at p g HGP.out).2
    have fz0 : w4.frozen? ⟨B, g * 2, none⟩ = false := World.ownsRow.frozenAt hv4 _
    have fz1 : w4.frozen? ⟨B, g * 2 + 1, none⟩ = false := World.ownsRow.frozenAt hv4 _
    have nq : B ≠ q := by omega
    have nr : B ≠ Z.rb := by omega
    have no : B ≠ og := by omega
    have nq' : q ≠ B := by omega
    have nr' : Z.rb ≠ B := by omega
    have no' : og ≠ B := by omega
    have HPA := hide (show PaAt Z.rb ((w4.setCell ⟨B, g * 2, none⟩ (.int .i64 (Z.of b))).setCell ⟨B, g * 2 + 1, none⟩ (.int .i64 (Z.of i))) (.slice (some ⟨B, 0, none⟩) p.length c4) (p.set g (Z.of b, Z.of i)) from ⟨by rw [List.length_set]; exact own_base (own_putS hv4 g HGP.out (Z.of b, Z.of i)) (Nat.zero_le _), fun e => by injection e with e; exact nr e⟩)
    have HB5 := hide (show Below w.heap.size w ((w4.setCell ⟨B, g * 2, none⟩ (.int .i64 (Z.of b))).setCell ⟨B, g * 2 + 1, none⟩ (.int .i64 (Z.of i))) from bl_set (bl_set hb4 hB1 _) hB1 _)
    clear hv4 hg4 h5 hb4 hcell x0 hB1 hB3 HB4 HNEW HSRC HONE HPL
    go_region
    go_wp2_with fail
    refine (HC.out _ (.slice (some ⟨B, 0, none⟩) p.length c4) (bl_drew HB5.out) (HPA.out.bl (bl_drew (bl_refl _)))).mono ?_
    rintro e w6 hp6
    have HP6 := hide (hp6.from (HG.out _ (bl_drew HB5.out)))
    obtain ⟨a4, A4, n4, c4', ok4, rfl⟩ := hp6.form
    clear hp6
    go_wp2_with fail
    refine bodyPost_ret (v := .tuple #[.int .i64 a4, .slice A4 n4 c4', .bool ok4]) ?_ rfl HP6.out
    rw [results_tmp3 rfl]
    go_simp
end
end Go.Proofs.YtcnliipkfccohaaGreat
end
section
namespace Go.Proofs.YtcnliipkfccohaaGreat
open Go.ChangeShapes Go.WideShapes Go.ChangeAt Go.RowKit
open SetM SpanM
attribute [local go_sem ↓] Go.wp_at_zero Go.wp_at_succ
set_option maxRecDepth 100000
set_option linter.unusedVariables false
attribute [local go_sem] later_cell later_frozen
theorem tkR_le {cs : List ByteArray} {fold : Bool} {x : Rt} {i n : Nat} (hi : i ≤ cs.length) (h : tkR cs fold x i = some n) : n ≤ 1 ∧ i + n ≤ cs.length := by
  unfold tkR at h
  split at h
  · split at h <;> first | (injection h with h; omega) | cases h
  · split at h
    · split at h <;> first | (injection h with h; omega) | cases h
    · split at h
      · split at h <;> first | (injection h with h; omega) | cases h
      · split at h
        · split at h <;> first | (injection h with h; omega) | cases h
        · split at h
          · split at h <;> first | (injection h with h; omega) | cases h
          · cases h
theorem RnI.fuel {Z : Rn} {w : World} {f f' : Nat} {out : Bool} (h : RnI Z w f out) : RnI Z (w.setCell ⟨Z.rb, 3, none⟩ (.int .i64 ((f' : Nat) : Int))) f' out :=
  ⟨bW_gr h.bW (gr_set w Z.rb _ _) (fun k hk => by injection hk with hk; rw [← hk]; exact h.hrb), h.hrb, h.cm.put 3 _, row_kept h.cs (gr_set w Z.rb _ _) (fun k hk e => h.cn (by rw [e, ← hk])), h.cn, row_kept h.os (gr_set w Z.rb _ _) (fun k hk e => h.on (by rw [e, ← hk])), h.on⟩
theorem RnI.dry {Z : Rn} {w : World} {f : Nat} {out : Bool} (h : RnI Z w f out) : RnI Z (w.setCell ⟨Z.rb, 4, none⟩ (.bool true)) f true :=
  ⟨bW_gr h.bW (gr_set w Z.rb _ _) (fun k hk => by injection hk with hk; rw [← hk]; exact h.hrb), h.hrb, h.cm.put 4 _, row_kept h.cs (gr_set w Z.rb _ _) (fun k hk e => h.cn (by rw [e, ← hk])), h.cn, row_kept h.os (gr_set w Z.rb _ _) (fun k hk e => h.on (by rw [e, ← hk])), h.on⟩
def BkAt (Z : Rn) (w : World) (b : Nat) (x : Rt) (g : Nat) (rv : Value) : Prop := b ≠ Z.rb ∧ RxAt Z.W0 x ∧ ∃ kd m fr : Int, ∀ j u, ([.int .i64 kd] ++ x.cs ++ [.int .i64 ((g : Nat) : Int), .int .i64 m, .int .i64 fr, rv] : List Value)[j]? = some u → w.cell? ⟨b, j, none⟩ = some u
def BuC (Z : Rn) (f : Nat) (x : Rt) (g : Nat) (ks : List Kt) (i : Nat) (p : List (Int × Int)) (r : Ro) : Prop :=
  ∀ (w : World) (b : Nat) (rv v : Value), RnI Z w f false → BkAt Z w b x g rv → NxAt Z.W0 Z.rb w rv ks → PaAt Z.rb w v p → i ≤ Z.cs.length → p.length ≤ 512 → (∀ t ∈ ks, KtOk p.length i t) → XOk p.length x g → f ≤ 20000 →
    Calls Tryz.prog 110 #[.pointer (some ⟨Z.rb, 0, none⟩), .pointer (some ⟨b, 0, none⟩), .int .i64 ((i : Nat) : Int), v] w (NrPost Z r w)
section
variable {Z : Rn}
set_option maxHeartbeats 4000000 in
theorem on_burn (f : Nat) (x : Rt) (g : Nat) (ks : List Kt) (i : Nat) (p : List (Int × Int)) (r : Ro) (hb : x.k ≠ 0 ∧ x.k ≠ 1 ∧ x.k ≠ 7) (ho : BuC Z f x g ks i p r) : OnC Z f (.hold x g :: ks) i p r := by
  intro w kv v hR hN hP hi hp hk hf
  cases hN with
  | hold q _ _ _ rv m fr hq hx hc hT =>
    obtain ⟨A, c, rfl⟩ := own_slice hP.1
    have x0 : w.cell? ⟨q, 0, none⟩ = some (.int .i64 0) := hc 0 _ rfl
    have x1 : w.cell? ⟨q, 1, none⟩ = some (.int .i64 x.k) := hc 1 _ rfl
    have HC := hide (fun (W : World) (hbl : Below w.heap.size w W) => ho W q rv _ (hR.bl hbl) ⟨hq, hx, 0, m, fr, fun j u hu => cell_later hbl (hc j u hu)⟩ (hT.bl hbl) (hP.bl hbl) hi hp (fun t ht => hk t (List.mem_cons_of_mem _ ht)) (hk _ List.mem_cons_self) hf)
    have HG := hide (fun (W : World) (hb : Below w.heap.size w W) => gr_bl hb (some Z.rb))
    have e0 : (x.k == 0) = false := beq_eq_false_iff_ne.2 hb.1
    have e1 : (x.k == 1) = false := beq_eq_false_iff_ne.2 hb.2.1
    have e7 : (x.k == 7) = false := beq_eq_false_iff_ne.2 hb.2.2
    clear hR hP hk hf hp hi hc hT ho hb
    have go : True := trivial
    · go_enter Tryz.func78, Tryz.ntmps78
      go_wp2_with fail
      refine (HC.out _ (bl_refl w)).mono ?_
      rintro e w6 hp6
      have HP6 := hide (hp6.from (HG.out _ (bl_refl w)))
      obtain ⟨a4, A4, n4, c4', ok4, rfl⟩ := hp6.form
      clear hp6
      go_wp2_with fail
      refine bodyPost_ret (v := .tuple #[.int .i64 a4, .slice A4 n4 c4', .bool ok4]) ?_ rfl HP6.out
      rw [results_tmp3 rfl]
      go_simp
set_option maxHeartbeats 4000000 in
theorem bu_dry (x : Rt) (g : Nat) (ks : List Kt) (i : Nat) (p : List (Int × Int)) : BuC Z 0 x g ks i p .dry := by
  intro w b rv v hR hB hT hP hi hp hk hx hf
  obtain ⟨A, c, rfl⟩ := own_slice hP.1
  have y3 : w.cell? ⟨Z.rb, 3, none⟩ = some (.int .i64 0) := hR.cm.c 3 _ rfl
  have y4 : w.cell? ⟨Z.rb, 4, none⟩ = some (.bool false) := hR.cm.c 4 _ rfl
  have f4 := hR.cm.f 4
  have HFIN := hide (show NrPost Z .dry w (.returned (.tuple #[.int .i64 0, .slice none 0 0, .bool false])) (w.setCell ⟨Z.rb, 4, none⟩ (.bool true)) from ⟨gr_set w Z.rb _ _, rfl, hR.dry⟩)
  clear hR hB hT hP hi hp hk hx hf
  go_enter Tryz.func110, Tryz.ntmps110
  go_wp2_with fail
  refine bodyPost_ret (v := .tuple #[.int .i64 0, .slice none 0 0, .bool false]) ?_ rfl HFIN.out
  rw [results_tmp3 rfl]
  go_simp
set_option maxHeartbeats 4000000 in
theorem bu_no (hZ : Z.Ok) (f : Nat) (x : Rt) (g : Nat) (ks : List Kt) (i : Nat) (p : List (Int × Int)) (hb : x.k ≠ 0 ∧ x.k ≠ 1 ∧ x.k ≠ 7 ∧ x.k ≠ 5 ∧ x.k ≠ 6) (ht : tkR Z.cs Z.fold x i = none) : BuC Z (f + 1) x g ks i p (.fail f) := by
  intro w b rv v hR hB hT hP hi hp hk hx hf
  obtain ⟨hq, hrx, kd, m, fr, hc⟩ := hB
  obtain ⟨A, c, rfl⟩ := own_slice hP.1
  obtain ⟨tA, tc, hkv⟩ := ksat_len hrx.ks
  obtain ⟨rA, rc, hrv⟩ := rwat_len hrx.rows
  have hxv : x.v = .agg #[.int .i64 x.k, .string x.ch, .bool x.nt, .slice rA x.rows.length rc, .int .i64 x.mi, .int .i64 x.ma, .bool x.lz, .slice tA x.kids.length tc] := by unfold Rt.v Rt.cs; rw [hkv, hrv]
  have hxc : x.cs = [.int .i64 x.k, .string x.ch, .bool x.nt, .slice rA x.rows.length rc, .int .i64 x.mi, .int .i64 x.ma, .bool x.lz, .slice tA x.kids.length tc] := by unfold Rt.cs; rw [hkv, hrv]
  rw [hxc] at hc
  have y3 : w.cell? ⟨Z.rb, 3, none⟩ = some (.int .i64 ((f + 1 : Nat) : Int)) := hR.cm.c 3 _ rfl
  have f3 := hR.cm.f 3
  have nq : Z.rb ≠ b := fun e => hq e.symm
  have x1 : w.cell? ⟨b, 1, none⟩ = some (.int .i64 x.k) := hc 1 _ rfl
  have x2 : w.cell? ⟨b, 2, none⟩ = some (.string x.ch) := hc 2 _ rfl
  have x3 : w.cell? ⟨b, 3, none⟩ = some (.bool x.nt) := hc 3 _ rfl
  have x4 : w.cell? ⟨b, 4, none⟩ = some (.slice rA x.rows.length rc) := hc 4 _ rfl
  have x5 : w.cell? ⟨b, 5, none⟩ = some (.int .i64 x.mi) := hc 5 _ rfl
  have x6 : w.cell? ⟨b, 6, none⟩ = some (.int .i64 x.ma) := hc 6 _ rfl
  have x7 : w.cell? ⟨b, 7, none⟩ = some (.bool x.lz) := hc 7 _ rfl
  have x8 : w.cell? ⟨b, 8, none⟩ = some (.slice tA x.kids.length tc) := hc 8 _ rfl
  have d0 : (((f + 1 : Nat) : Int) == 0) = false := beq_eq_false_iff_ne.2 (by omega)
  have d0' : (((f : Nat) : Int) + 1 == 0) = false := beq_eq_false_iff_ne.2 (by omega)
  have ew : IntKind.i64.wrap ((f : Nat) : Int) = (f : Int) := by rw [IntKind.wrap_i64]; omega
  have ew2 : wrap64 ((f : Nat) : Int) = (f : Int) := by unfold wrap64; omega
  have e5 : (x.k == 5) = false := beq_eq_false_iff_ne.2 hb.2.2.2.1
  have e6 : (x.k == 6) = false := beq_eq_false_iff_ne.2 hb.2.2.2.2
  have hkk := hx.kind
  have HTK := hide (rtakes_any hZ (hR.fuel (f' := f)) hrx hx.sz (by omega) i hi)
  rw [hxv] at HTK
  have HTN := hide ht
  have HFIN := hide (fun (W : World) (hbl : Below (w.setCell ⟨Z.rb, 3, none⟩ (.int .i64 ((f : Nat) : Int))).heap.size (w.setCell ⟨Z.rb, 3, none⟩ (.int .i64 ((f : Nat) : Int))) W) => (show NrPost Z (.fail f) w (.returned (.tuple #[.int .i64 0, .slice none 0 0, .bool false])) W from ⟨gr_trans (gr_set w Z.rb _ _) (gr_bl hbl _), rfl, (hR.fuel (f' := f)).bl hbl⟩))
  clear hR hc hT hP hi hp hk hx hf hq hrx hkv hrv hxv hxc hb hkk ht
  go_enter Tryz.func110, Tryz.ntmps110
  go_wp2_with fail
  refine HTK.out.mono ?_
  rintro e w3 ⟨m3, ok3, rfl, hb3, ht3⟩
  have hok : ok3 = false := by
    rw [HTN.out] at ht3
    cases ok3 with
    | false => rfl
    | true => cases ht3
  subst hok
  have HB3 := hide hb3
  clear ht3 hb3
  go_wp2_with fail
  refine bodyPost_ret (v := .tuple #[.int .i64 0, .slice none 0 0, .bool false]) ?_ rfl (HFIN.out _ HB3.out)
  rw [results_tmp3 rfl]
  go_simp
set_option maxHeartbeats 4000000 in
theorem bu_yes (hZ : Z.Ok) (f : Nat) (x : Rt) (g : Nat) (ks : List Kt) (i : Nat) (p : List (Int × Int)) (n : Nat) (r : Ro) (hb : x.k ≠ 0 ∧ x.k ≠ 1 ∧ x.k ≠ 7 ∧ x.k ≠ 5 ∧ x.k ≠ 6) (ht : tkR Z.cs Z.fold x i = some n) (ho : OnC Z f ks (i + n) p r) : BuC Z (f + 1) x g ks i p r := by
  intro w b rv v hR hB hT hP hi hp hk hx hf
  obtain ⟨hq, hrx, kd, m, fr, hc⟩ := hB
  obtain ⟨A, c, rfl⟩ := own_slice hP.1
  obtain ⟨a12, rfl⟩ := hT.ptr
  obtain ⟨tA, tc, hkv⟩ := ksat_len hrx.ks
  obtain ⟨rA, rc, hrv⟩ := rwat_len hrx.rows
  have hxv : x.v = .agg #[.int .i64 x.k, .string x.ch, .bool x.nt, .slice rA x.rows.length rc, .int .i64 x.mi, .int .i64 x.ma, .bool x.lz, .slice tA x.kids.length tc] := by unfold Rt.v Rt.cs; rw [hkv, hrv]
  have hxc : x.cs = [.int .i64 x.k, .string x.ch, .bool x.nt, .slice rA x.rows.length rc, .int .i64 x.mi, .int .i64 x.ma, .bool x.lz, .slice tA x.kids.length tc] := by unfold Rt.cs; rw [hkv, hrv]
  rw [hxc] at hc
  have y3 : w.cell? ⟨Z.rb, 3, none⟩ = some (.int .i64 ((f + 1 : Nat) : Int)) := hR.cm.c 3 _ rfl
  have f3 := hR.cm.f 3
  have nq : Z.rb ≠ b := fun e => hq e.symm
  have x1 : w.cell? ⟨b, 1, none⟩ = some (.int .i64 x.k) := hc 1 _ rfl
  have x2 : w.cell? ⟨b, 2, none⟩ = some (.string x.ch) := hc 2 _ rfl
  have x3 : w.cell? ⟨b, 3, none⟩ = some (.bool x.nt) := hc 3 _ rfl
  have x4 : w.cell? ⟨b, 4, none⟩ = some (.slice rA x.rows.length rc) := hc 4 _ rfl
  have x5 : w.cell? ⟨b, 5, none⟩ = some (.int .i64 x.mi) := hc 5 _ rfl
  have x6 : w.cell? ⟨b, 6, none⟩ = some (.int .i64 x.ma) := hc 6 _ rfl
  have x7 : w.cell? ⟨b, 7, none⟩ = some (.bool x.lz) := hc 7 _ rfl
  have x8 : w.cell? ⟨b, 8, none⟩ = some (.slice tA x.kids.length tc) := hc 8 _ rfl
  have x12 : w.cell? ⟨b, 12, none⟩ = some (.pointer a12) := hc 12 _ rfl
  have d0 : (((f + 1 : Nat) : Int) == 0) = false := beq_eq_false_iff_ne.2 (by omega)
  have d0' : (((f : Nat) : Int) + 1 == 0) = false := beq_eq_false_iff_ne.2 (by omega)
  have ew : IntKind.i64.wrap ((f : Nat) : Int) = (f : Int) := by rw [IntKind.wrap_i64]; omega
  have ew2 : wrap64 ((f : Nat) : Int) = (f : Int) := by unfold wrap64; omega
  have e5 : (x.k == 5) = false := beq_eq_false_iff_ne.2 hb.2.2.2.1
  have e6 : (x.k == 6) = false := beq_eq_false_iff_ne.2 hb.2.2.2.2
  have hkk := hx.kind
  have HTK := hide (rtakes_any hZ (hR.fuel (f' := f)) hrx hx.sz (by omega) i hi)
  rw [hxv] at HTK
  have HTN := hide ht
  have hin := tkR_le hi ht
  have hcl : Z.cs.length ≤ 1000 := by have := hZ.len; have := hZ.max; omega
  have en : IntKind.i64.wrap (((i : Nat) : Int) + ((n : Nat) : Int)) = ((i + n : Nat) : Int) := by rw [IntKind.wrap_i64]; omega
  have HSET := hide (gr_set w Z.rb 3 (.int .i64 ((f : Nat) : Int)))
  have HX12 := hide (show (w.setCell ⟨Z.rb, 3, none⟩ (.int .i64 ((f : Nat) : Int))).cell? ⟨b, 12, none⟩ = some (.pointer a12) from cell_gr HSET.out (fun e => nq (by injection e)) x12)
  have HC := hide (fun (W : World) (hbl : Below (w.setCell ⟨Z.rb, 3, none⟩ (.int .i64 ((f : Nat) : Int))).heap.size (w.setCell ⟨Z.rb, 3, none⟩ (.int .i64 ((f : Nat) : Int))) W) => ho W _ _ ((hR.fuel (f' := f)).bl hbl) ((hT.gr HSET.out).bl hbl) ((hP.gr HSET.out).bl hbl) hin.2 hp (fun t ht => (hk t ht).up (Nat.le_add_right i n)) (by omega))
  have HG := hide (fun (W : World) (hbl : Below (w.setCell ⟨Z.rb, 3, none⟩ (.int .i64 ((f : Nat) : Int))).heap.size (w.setCell ⟨Z.rb, 3, none⟩ (.int .i64 ((f : Nat) : Int))) W) => gr_trans HSET.out (gr_bl hbl (some Z.rb)))
  clear hR hc hT hP hi hp hk hx hf hq hrx hkv hrv hxv hxc hb hkk ht hin ho hcl
  go_enter Tryz.func110, Tryz.ntmps110
  go_wp2_with fail
  refine HTK.out.mono ?_
  rintro e w3 ⟨m3, ok3, rfl, hb3, ht3⟩
  obtain ⟨hok, hmn⟩ : ok3 = true ∧ m3 = n := by
    rw [HTN.out] at ht3
    cases ok3 with
    | false => cases ht3
    | true => injection ht3 with ht3; exact ⟨rfl, ht3.symm⟩
  subst hok hmn
  have x12 := cell_later hb3 HX12.out
  have HB3 := hide hb3
  clear ht3 hb3
  go_wp2_with fail
  refine (HC.out _ HB3.out).mono ?_
  rintro e w6 hp6
  have HP6 := hide (hp6.from (HG.out _ HB3.out))
  obtain ⟨a4, A4, n4, c4', ok4, rfl⟩ := hp6.form
  clear hp6
  go_wp2_with fail
  refine bodyPost_ret (v := .tuple #[.int .i64 a4, .slice A4 n4 c4', .bool ok4]) ?_ rfl HP6.out
  rw [results_tmp3 rfl]
  go_simp
end
end Go.Proofs.YtcnliipkfccohaaGreat
end
section
namespace Go.Proofs.YtcnliipkfccohaaGreat
open Go.ChangeShapes Go.WideShapes Go.ChangeAt Go.RowKit
open SetM SpanM
attribute [local go_sem ↓] Go.wp_at_zero Go.wp_at_succ
set_option maxRecDepth 100000
set_option linter.unusedVariables false
attribute [local go_sem] later_cell later_frozen
section
variable {Z : Rn}
set_option maxHeartbeats 8000000 in
theorem on_rep (f : Nat) (x : Rt) (g : Nat) (ks : List Kt) (i : Nat) (p : List (Int × Int)) (r : Ro) (hk7 : x.k = 7) (ho : RpC Z f x g 0 ks i p r) : OnC Z f (.hold x g :: ks) i p r := by
  intro w kv v hR hN hP hi hp hk hf
  cases hN with
  | hold q _ _ _ rv m fr hq hx hc hT =>
    obtain ⟨A, c, rfl⟩ := own_slice hP.1
    obtain ⟨a12, rfl⟩ := hT.ptr
    obtain ⟨tA, tc, hkv⟩ := ksat_len hx.ks
    obtain ⟨rA, rc, hrv⟩ := rwat_len hx.rows
    have hxc : x.cs = [.int .i64 x.k, .string x.ch, .bool x.nt, .slice rA x.rows.length rc, .int .i64 x.mi, .int .i64 x.ma, .bool x.lz, .slice tA x.kids.length tc] := by unfold Rt.cs; rw [hkv, hrv]
    have hrb : Z.rb < w.heap.size := hR.cm.s
    have HC := hide (fun (W : World) (b : Nat) (hbl : Below w.heap.size w W) (hge : w.heap.size ≤ b) (hcs : ∀ j u, ([.int .i64 0, .int .i64 x.k, .string x.ch, .bool x.nt, .slice rA x.rows.length rc, .int .i64 x.mi, .int .i64 x.ma, .bool x.lz, .slice tA x.kids.length tc, .int .i64 ((g : Nat) : Int), .int .i64 0, .int .i64 0, .pointer a12] : List Value)[j]? = some u → W.cell? ⟨b, j, none⟩ = some u) => ho W b _ _ (hR.bl hbl) ⟨by omega, hx, 0, 0, by rw [hxc]; exact hcs⟩ (hT.bl hbl) (hP.bl hbl) hi hp (fun t ht => hk t (List.mem_cons_of_mem _ ht)) (hk _ List.mem_cons_self) hk7 (Nat.zero_le _) hf)
    have HG := hide (fun (W : World) (hb : Below w.heap.size w W) => gr_bl hb (some Z.rb))
    rw [hxc] at hc
    have x0 : w.cell? ⟨q, 0, none⟩ = some (.int .i64 0) := hc 0 _ rfl
    have x1 : w.cell? ⟨q, 1, none⟩ = some (.int .i64 x.k) := hc 1 _ rfl
    have x2 : w.cell? ⟨q, 2, none⟩ = some (.string x.ch) := hc 2 _ rfl
    have x3 : w.cell? ⟨q, 3, none⟩ = some (.bool x.nt) := hc 3 _ rfl
    have x4 : w.cell? ⟨q, 4, none⟩ = some (.slice rA x.rows.length rc) := hc 4 _ rfl
    have x5 : w.cell? ⟨q, 5, none⟩ = some (.int .i64 x.mi) := hc 5 _ rfl
    have x6 : w.cell? ⟨q, 6, none⟩ = some (.int .i64 x.ma) := hc 6 _ rfl
    have x7 : w.cell? ⟨q, 7, none⟩ = some (.bool x.lz) := hc 7 _ rfl
    have x8 : w.cell? ⟨q, 8, none⟩ = some (.slice tA x.kids.length tc) := hc 8 _ rfl
    have x9 : w.cell? ⟨q, 9, none⟩ = some (.int .i64 ((g : Nat) : Int)) := hc 9 _ rfl
    have x12 : w.cell? ⟨q, 12, none⟩ = some (.pointer a12) := hc 12 _ rfl
    have ltq : q < w.heap.size := World.block_lt_of_cell? _ _ x0
    have e0 : (x.k == 0) = false := beq_eq_false_iff_ne.2 (by omega)
    have e1 : (x.k == 1) = false := beq_eq_false_iff_ne.2 (by omega)
    have e7 : (x.k == 7) = true := by rw [hk7]; rfl
    have nq : w.heap.size ≠ q := by omega
    have HQ := hide (fun (W : World) (hg : w.grownBy W (some Z.rb)) => (show W.cell? ⟨q, 1, none⟩ = some (.int .i64 x.k) ∧ W.cell? ⟨q, 2, none⟩ = some (.string x.ch) ∧ W.cell? ⟨q, 3, none⟩ = some (.bool x.nt) ∧ W.cell? ⟨q, 4, none⟩ = some (.slice rA x.rows.length rc) ∧ W.cell? ⟨q, 5, none⟩ = some (.int .i64 x.mi) ∧ W.cell? ⟨q, 6, none⟩ = some (.int .i64 x.ma) ∧ W.cell? ⟨q, 7, none⟩ = some (.bool x.lz) ∧ W.cell? ⟨q, 8, none⟩ = some (.slice tA x.kids.length tc) ∧ W.cell? ⟨q, 9, none⟩ = some (.int .i64 ((g : Nat) : Int)) ∧ W.cell? ⟨q, 12, none⟩ = some (.pointer a12) from ⟨cell_gr hg (fun e => hq (by injection e with e; exact e.symm)) x1, cell_gr hg (fun e => hq (by injection e with e; exact e.symm)) x2, cell_gr hg (fun e => hq (by injection e with e; exact e.symm)) x3, cell_gr hg (fun e => hq (by injection e with e; exact e.symm)) x4, cell_gr hg (fun e => hq (by injection e with e; exact e.symm)) x5, cell_gr hg (fun e => hq (by injection e with e; exact e.symm)) x6, cell_gr hg (fun e => hq (by injection e with e; exact e.symm)) x7, cell_gr hg (fun e => hq (by injection e with e; exact e.symm)) x8, cell_gr hg (fun e => hq (by injection e with e; exact e.symm)) x9, cell_gr hg (fun e => hq (by injection e with e; exact e.symm)) x12⟩))
    clear hR hP hk hf hp hi hc hT ho hq hx hkv hrv hxc hrb hk7
    go_enter Tryz.func78, Tryz.ntmps78
    go_wp2_with fail
    go_region_held3 (fun W => W.cell? ⟨q, 1, none⟩ = some (.int .i64 x.k) ∧ W.cell? ⟨q, 2, none⟩ = some (.string x.ch) ∧ W.cell? ⟨q, 3, none⟩ = some (.bool x.nt) ∧ W.cell? ⟨q, 4, none⟩ = some (.slice rA x.rows.length rc) ∧ W.cell? ⟨q, 5, none⟩ = some (.int .i64 x.mi) ∧ W.cell? ⟨q, 6, none⟩ = some (.int .i64 x.ma) ∧ W.cell? ⟨q, 7, none⟩ = some (.bool x.lz) ∧ W.cell? ⟨q, 8, none⟩ = some (.slice tA x.kids.length tc) ∧ W.cell? ⟨q, 9, none⟩ = some (.int .i64 ((g : Nat) : Int)) ∧ W.cell? ⟨q, 12, none⟩ = some (.pointer a12) ∧ True)
      (first | (refine ⟨?_, ?_, ?_, ?_, ?_, ?_, ?_, ?_, ?_, ?_, trivial⟩ <;> (repeat (first | with_reducible assumption | with_reducible refine dr_blk ?_ | with_reducible refine al_blk ?_)); done) | go_keep)
      (first | (go_at_call 109; refine (HC.out _ _ (by repeat (first | exact bl_refl _ | refine bl_drew ?_ | refine bl_alloc ?_ _)) (by simp) (by first | exact cells_new _ _ _ | (intro j u hu; refine dr_blk ?_; exact cells_new _ _ _ j u hu))).mono ?_; rintro e w6 hp6; have HP6 := hide (hp6.from (HG.out _ (by repeat (first | exact bl_refl _ | refine bl_drew ?_ | refine bl_alloc ?_ _)))); obtain ⟨a4, A4, n4, c4', ok4, rfl⟩ := hp6.form; obtain ⟨z1, z2, z3, z4, z5, z6, z7, z8, z9, z10⟩ := HQ.out _ HP6.out.1; clear hp6) | fail)
    go_wp2_with fail
    refine bodyPost_ret (v := .tuple #[.int .i64 a4, .slice A4 n4 c4', .bool ok4]) ?_ rfl HP6.out
    rw [results_tmp3 rfl]
    go_simp
end
end Go.Proofs.YtcnliipkfccohaaGreat
end
section
namespace Go.Proofs.YtcnliipkfccohaaGreat
open Go.ChangeShapes Go.WideShapes Go.ChangeAt Go.RowKit
open SetM SpanM
attribute [local go_sem ↓] Go.wp_at_zero Go.wp_at_succ
set_option maxRecDepth 100000
set_option linter.unusedVariables false
attribute [local go_sem] later_cell later_frozen
def TmC (Z : Rn) (f : Nat) (x : Rt) (g m : Nat) (ks : List Kt) (i : Nat) (p : List (Int × Int)) (r : Ro) : Prop :=
  ∀ (w : World) (b : Nat) (rv v : Value), RnI Z w f false → RpAt Z w b x g m rv → NxAt Z.W0 Z.rb w rv ks → PaAt Z.rb w v p → i ≤ Z.cs.length → p.length ≤ 512 → (∀ t ∈ ks, KtOk p.length i t) → XOk p.length x g → x.k = 7 → m ≤ x.mi.toNat + i → f ≤ 20000 →
    Calls Tryz.prog 138 #[.pointer (some ⟨Z.rb, 0, none⟩), .pointer (some ⟨b, 0, none⟩), .int .i64 ((i : Nat) : Int), v] w (NrPost Z r w)
section
variable {Z : Rn}
set_option maxHeartbeats 4000000 in
theorem rp_must (f : Nat) (x : Rt) (g m : Nat) (ks : List Kt) (i : Nat) (p : List (Int × Int)) (r : Ro) (h1 : ((m : Nat) : Int) < x.mi) (ho : TmC Z f x g m ks i p r) : RpC Z f x g m ks i p r := by
  intro w b rv v hR hB hT hP hi hp hk hx hk7 hm hf
  have HC := hide (fun (W : World) (hbl : Below w.heap.size w W) => ho W b rv v (hR.bl hbl) (by obtain ⟨hq, hrx, kd, fr, hc⟩ := hB; exact ⟨hq, hrx, kd, fr, fun j u hu => cell_later hbl (hc j u hu)⟩) (hT.bl hbl) (hP.bl hbl) hi hp hk hx hk7 hm hf)
  have HG := hide (fun (W : World) (hb : Below w.heap.size w W) => gr_bl hb (some Z.rb))
  obtain ⟨hq, hrx, kd, fr, hc⟩ := hB
  obtain ⟨A, c, rfl⟩ := own_slice hP.1
  have x5 : w.cell? ⟨b, 5, none⟩ = some (.int .i64 x.mi) := hc 5 _ rfl
  have x6 : w.cell? ⟨b, 6, none⟩ = some (.int .i64 x.ma) := hc 6 _ rfl
  have x10 : w.cell? ⟨b, 10, none⟩ = some (.int .i64 ((m : Nat) : Int)) := hc 10 _ rfl
  have d1 : decide (((m : Nat) : Int) < x.mi) = true := decide_eq_true h1
  clear hR hc hT hP hi hp hk hx hf hq hrx hk7 hm h1 ho
  by_cases e1 : x.ma = -1
  · have q1 : (x.ma == -1) = true := by rw [e1]; rfl
    clear e1
    · have go : True := trivial
      go_enter Tryz.func109, Tryz.ntmps109
      go_wp2_with fail
      go_quiet (fail)
      go_wp2_with fail
      go_quiet (fail)
      go_wp2_with fail
      refine (HC.out _ (by repeat (first | exact bl_refl _ | refine bl_drewN ?_ _))).mono ?_
      rintro e w6 hp6
      have HP6 := hide (hp6.from (HG.out _ (by repeat (first | exact bl_refl _ | refine bl_drewN ?_ _))))
      obtain ⟨a4, A4, n4, c4', ok4, rfl⟩ := hp6.form
      clear hp6
      go_wp2_with fail
      refine bodyPost_ret (v := .tuple #[.int .i64 a4, .slice A4 n4 c4', .bool ok4]) ?_ rfl HP6.out
      rw [results_tmp3 rfl]
      go_simp
  · have q1 : (x.ma == -1) = false := beq_eq_false_iff_ne.2 e1
    clear e1
    by_cases e2 : ((m : Nat) : Int) < x.ma
    · have q2 : decide (((m : Nat) : Int) < x.ma) = true := decide_eq_true e2
      clear e2
      go_enter Tryz.func109, Tryz.ntmps109
      go_wp2_with fail
      go_quiet (fail)
      go_wp2_with fail
      go_quiet (fail)
      go_wp2_with fail
      refine (HC.out _ (by repeat (first | exact bl_refl _ | refine bl_drewN ?_ _))).mono ?_
      rintro e w6 hp6
      have HP6 := hide (hp6.from (HG.out _ (by repeat (first | exact bl_refl _ | refine bl_drewN ?_ _))))
      obtain ⟨a4, A4, n4, c4', ok4, rfl⟩ := hp6.form
      clear hp6
      go_wp2_with fail
      refine bodyPost_ret (v := .tuple #[.int .i64 a4, .slice A4 n4 c4', .bool ok4]) ?_ rfl HP6.out
      rw [results_tmp3 rfl]
      go_simp
    · have q2 : decide (((m : Nat) : Int) < x.ma) = false := decide_eq_false e2
      clear e2
      go_enter Tryz.func109, Tryz.ntmps109
      go_wp2_with fail
      go_quiet (fail)
      go_wp2_with fail
      go_quiet (fail)
      go_wp2_with fail
      refine (HC.out _ (by repeat (first | exact bl_refl _ | refine bl_drewN ?_ _))).mono ?_
      rintro e w6 hp6
      have HP6 := hide (hp6.from (HG.out _ (by repeat (first | exact bl_refl _ | refine bl_drewN ?_ _))))
      obtain ⟨a4, A4, n4, c4', ok4, rfl⟩ := hp6.form
      clear hp6
      go_wp2_with fail
      refine bodyPost_ret (v := .tuple #[.int .i64 a4, .slice A4 n4 c4', .bool ok4]) ?_ rfl HP6.out
      rw [results_tmp3 rfl]
      go_simp
end
end Go.Proofs.YtcnliipkfccohaaGreat
end
section
namespace Go.Proofs.YtcnliipkfccohaaGreat
open Go.ChangeShapes Go.WideShapes Go.ChangeAt Go.RowKit
open SetM SpanM
attribute [local go_sem ↓] Go.wp_at_zero Go.wp_at_succ
set_option maxRecDepth 100000
set_option linter.unusedVariables false
attribute [local go_sem] later_cell later_frozen
section
variable {Z : Rn}
set_option maxHeartbeats 4000000 in
theorem rp_fullN (f : Nat) (x : Rt) (g m : Nat) (ks : List Kt) (i : Nat) (p : List (Int × Int)) (r : Ro) (h1 : ¬ ((m : Nat) : Int) < x.mi) (h2 : x.ma ≠ -1 ∧ x.ma ≤ ((m : Nat) : Int)) (hl : x.lz = false) (ho : OnC Z f ks i p r) : RpC Z f x g m ks i p r := by
  intro w b rv v hR hB hT hP hi hp hk hx hk7 hm hf
  have HC := hide (fun (W : World) (hbl : Below w.heap.size w W) => ho W rv v (hR.bl hbl) (hT.bl hbl) (hP.bl hbl) hi hp hk hf)
  have HG := hide (fun (W : World) (hb : Below w.heap.size w W) => gr_bl hb (some Z.rb))
  obtain ⟨hq, hrx, kd, fr, hc⟩ := hB
  obtain ⟨A, c, rfl⟩ := own_slice hP.1
  obtain ⟨a12, rfl⟩ := hT.ptr
  have x5 : w.cell? ⟨b, 5, none⟩ = some (.int .i64 x.mi) := hc 5 _ rfl
  have x6 : w.cell? ⟨b, 6, none⟩ = some (.int .i64 x.ma) := hc 6 _ rfl
  have x7 : w.cell? ⟨b, 7, none⟩ = some (.bool false) := by rw [← hl]; exact hc 7 _ rfl
  have x10 : w.cell? ⟨b, 10, none⟩ = some (.int .i64 ((m : Nat) : Int)) := hc 10 _ rfl
  have x12 : w.cell? ⟨b, 12, none⟩ = some (.pointer a12) := hc 12 _ rfl
  have d1 : decide (((m : Nat) : Int) < x.mi) = false := decide_eq_false h1
  have q1 : (x.ma == -1) = false := beq_eq_false_iff_ne.2 h2.1
  have q2 : decide (((m : Nat) : Int) < x.ma) = false := decide_eq_false (by have := h2.2; omega)
  clear hR hc hT hP hi hp hk hx hf hq hrx hk7 hm h1 ho h2 hl
  go_enter Tryz.func109, Tryz.ntmps109
  go_wp2_with fail
  go_quiet (fail)
  go_wp2_with fail
  go_quiet (fail)
  go_wp2_with fail
  refine (HC.out _ (by repeat (first | exact bl_refl _ | refine bl_drewN ?_ _))).mono ?_
  rintro e w6 hp6
  have HP6 := hide (hp6.from (HG.out _ (by repeat (first | exact bl_refl _ | refine bl_drewN ?_ _))))
  obtain ⟨a4, A4, n4, c4', ok4, rfl⟩ := hp6.form
  clear hp6
  go_wp2_with fail
  refine bodyPost_ret (v := .tuple #[.int .i64 a4, .slice A4 n4 c4', .bool ok4]) ?_ rfl HP6.out
  rw [results_tmp3 rfl]
  go_simp
end
end Go.Proofs.YtcnliipkfccohaaGreat
end
section
namespace Go.Proofs.YtcnliipkfccohaaGreat
open Go.ChangeShapes Go.WideShapes Go.ChangeAt Go.RowKit
open SetM SpanM
attribute [local go_sem ↓] Go.wp_at_zero Go.wp_at_succ
set_option maxRecDepth 100000
set_option linter.unusedVariables false
attribute [local go_sem] later_cell later_frozen
section
variable {Z : Rn}
set_option maxHeartbeats 4000000 in
theorem rp_moreD (f : Nat) (x : Rt) (g m : Nat) (ks : List Kt) (i : Nat) (p : List (Int × Int)) (r : Ro) (h1 : ¬ ((m : Nat) : Int) < x.mi) (h2 : ¬ (x.ma ≠ -1 ∧ x.ma ≤ ((m : Nat) : Int))) (hl : x.lz = false) (ho : TmC Z f x g m ks i p r) (hr : ∀ f', r ≠ .fail f') : RpC Z f x g m ks i p r := by
  intro w b rv v hR hB hT hP hi hp hk hx hk7 hm hf
  have HT := hide (fun (W : World) (hbl : Below w.heap.size w W) => ho W b rv v (hR.bl hbl) (by obtain ⟨hq, hrx, kd, fr, hc⟩ := hB; exact ⟨hq, hrx, kd, fr, fun j u hu => cell_later hbl (hc j u hu)⟩) (hT.bl hbl) (hP.bl hbl) hi hp hk hx hk7 hm hf)
  have HG := hide (fun (W : World) (hb : Below w.heap.size w W) => gr_bl hb (some Z.rb))
  have HR := hide hr
  obtain ⟨hq, hrx, kd, fr, hc⟩ := hB
  obtain ⟨A, c, rfl⟩ := own_slice hP.1
  have x5 : w.cell? ⟨b, 5, none⟩ = some (.int .i64 x.mi) := hc 5 _ rfl
  have x6 : w.cell? ⟨b, 6, none⟩ = some (.int .i64 x.ma) := hc 6 _ rfl
  have x7 : w.cell? ⟨b, 7, none⟩ = some (.bool false) := by rw [← hl]; exact hc 7 _ rfl
  have x10 : w.cell? ⟨b, 10, none⟩ = some (.int .i64 ((m : Nat) : Int)) := hc 10 _ rfl
  have d1 : decide (((m : Nat) : Int) < x.mi) = false := decide_eq_false h1
  clear hR hc hT hP hi hp hk hx hf hq hrx hk7 hm h1 ho hl hr
  by_cases e1 : x.ma = -1
  · have q1 : (x.ma == -1) = true := by rw [e1]; rfl
    clear e1 h2
    cases r with
    | fail f' => exact absurd rfl (HR.out f')
    | found j p' f' =>
      go_enter Tryz.func109, Tryz.ntmps109
      go_wp2_with fail
      go_quiet (fail)
      go_wp2_with fail
      go_quiet (fail)
      go_wp2_with fail
      refine (HT.out _ (by repeat (first | exact bl_refl _ | refine bl_drewN ?_ _))).mono ?_
      rintro e w6 hp6
      have HP6 := hide (hp6.from (HG.out _ (by repeat (first | exact bl_refl _ | refine bl_drewN ?_ _))))
      obtain ⟨_, v6, rfl, hR6, hP6⟩ := hp6
      obtain ⟨A6, c6, rfl⟩ := own_slice hP6.1
      clear hR6 hP6
      go_wp2_with fail
      refine bodyPost_ret (v := .tuple #[.int .i64 ((j : Nat) : Int), .slice A6 p'.length c6, .bool true]) ?_ rfl HP6.out
      rw [results_tmp3 rfl]
      go_simp
    | dry =>
      go_enter Tryz.func109, Tryz.ntmps109
      go_wp2_with fail
      go_quiet (fail)
      go_wp2_with fail
      go_quiet (fail)
      go_wp2_with fail
      refine (HT.out _ (by repeat (first | exact bl_refl _ | refine bl_drewN ?_ _))).mono ?_
      rintro e w6 hp6
      have HP6 := hide (hp6.from (HG.out _ (by repeat (first | exact bl_refl _ | refine bl_drewN ?_ _))))
      obtain ⟨_, rfl, hR6⟩ := hp6
      have y4 : w6.cell? ⟨Z.rb, 4, none⟩ = some (.bool true) := hR6.cm.c 4 _ rfl
      have lt6 := hR6.cm.s
      clear hR6
      go_wp2_with fail
      refine bodyPost_ret (v := .tuple #[.int .i64 0, .slice none 0 0, .bool false]) ?_ rfl HP6.out
      rw [results_tmp3 rfl]
      go_simp
  · have q1 : (x.ma == -1) = false := beq_eq_false_iff_ne.2 e1
    have q2 : decide (((m : Nat) : Int) < x.ma) = true := decide_eq_true (by
      have : ¬ x.ma ≤ ((m : Nat) : Int) := fun h => h2 ⟨e1, h⟩
      omega)
    clear e1 h2
    cases r with
    | fail f' => exact absurd rfl (HR.out f')
    | found j p' f' =>
      go_enter Tryz.func109, Tryz.ntmps109
      go_wp2_with fail
      go_quiet (fail)
      go_wp2_with fail
      go_quiet (fail)
      go_wp2_with fail
      refine (HT.out _ (by repeat (first | exact bl_refl _ | refine bl_drewN ?_ _))).mono ?_
      rintro e w6 hp6
      have HP6 := hide (hp6.from (HG.out _ (by repeat (first | exact bl_refl _ | refine bl_drewN ?_ _))))
      obtain ⟨_, v6, rfl, hR6, hP6⟩ := hp6
      obtain ⟨A6, c6, rfl⟩ := own_slice hP6.1
      clear hR6 hP6
      go_wp2_with fail
      refine bodyPost_ret (v := .tuple #[.int .i64 ((j : Nat) : Int), .slice A6 p'.length c6, .bool true]) ?_ rfl HP6.out
      rw [results_tmp3 rfl]
      go_simp
    | dry =>
      go_enter Tryz.func109, Tryz.ntmps109
      go_wp2_with fail
      go_quiet (fail)
      go_wp2_with fail
      go_quiet (fail)
      go_wp2_with fail
      refine (HT.out _ (by repeat (first | exact bl_refl _ | refine bl_drewN ?_ _))).mono ?_
      rintro e w6 hp6
      have HP6 := hide (hp6.from (HG.out _ (by repeat (first | exact bl_refl _ | refine bl_drewN ?_ _))))
      obtain ⟨_, rfl, hR6⟩ := hp6
      have y4 : w6.cell? ⟨Z.rb, 4, none⟩ = some (.bool true) := hR6.cm.c 4 _ rfl
      have lt6 := hR6.cm.s
      clear hR6
      go_wp2_with fail
      refine bodyPost_ret (v := .tuple #[.int .i64 0, .slice none 0 0, .bool false]) ?_ rfl HP6.out
      rw [results_tmp3 rfl]
      go_simp
end
end Go.Proofs.YtcnliipkfccohaaGreat
end
