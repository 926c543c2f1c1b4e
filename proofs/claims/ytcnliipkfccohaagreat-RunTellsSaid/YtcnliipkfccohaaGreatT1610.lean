/- Contracts of gimletref16: burnt, groups. Condition: rows that stay short. And 4 texts more. -/
import Derived.Test.YtcnliipkfccohaaGreatT169
import Derived.Deep.RegionHeld3
import Derived.Deep.DrawnRows
import Derived.BigRegion
import Derived.BigQuiet
import Derived.Deep.RegionLaw
import Derived.Deep.AppendLies
namespace Go.Proofs.YtcnliipkfccohaaGreat
end Go.Proofs.YtcnliipkfccohaaGreat
namespace Go.Proofs.YtcnliipkfccohaaGreat.SetM
end Go.Proofs.YtcnliipkfccohaaGreat.SetM
namespace Go.Proofs.YtcnliipkfccohaaGreat.SpanM
end Go.Proofs.YtcnliipkfccohaaGreat.SpanM
section
namespace Go.Proofs.YtcnliipkfccohaaGreat
open Go.ChangeShapes Go.WideShapes Go.ChangeAt Go.RowKit
open SetM SpanM
attribute [local go_sem ↓] Go.wp_at_zero Go.wp_at_succ
set_option maxRecDepth 100000
set_option linter.unusedVariables false
attribute [local go_sem] later_cell later_frozen
section
variable {Z : Rn}
theorem wr_i {n : Nat} (h : n ≤ 100000) : IntKind.i64.wrap ((n : Nat) : Int) = (n : Int) := by rw [IntKind.wrap_i64]; omega
theorem wr_6 {n : Nat} (h : n ≤ 100000) : wrap64 ((n : Nat) : Int) = (n : Int) := by unfold wrap64; omega
theorem wr_g {n : Nat} (h : n ≤ 512) : IntKind.i64.wrap (((n : Nat) : Int) + 1) = ((n + 1 : Nat) : Int) := by rw [IntKind.wrap_i64]; omega
set_option maxHeartbeats 16000000 in
theorem bu_bare (hZ : Z.Ok) (f : Nat) (x y : Rt) (g : Nat) (ks : List Kt) (i : Nat) (p : List (Int × Int)) (r : Ro) (hk5 : x.k = 6) (hy : x.kids = [y]) (ho : OnC Z f (.hold y g :: ks) i p r) : BuC Z (f + 1) x g ks i p r := by
  intro w b rv v hR hB hT hP hi hp hk hx hf
  obtain ⟨hq, hrx, kd, m, fr, hc⟩ := hB
  obtain ⟨A, c, rfl⟩ := own_slice hP.1
  obtain ⟨a12, rfl⟩ := hT.ptr
  obtain ⟨kb, ko, kc, hkv, hkc, hkm, hkl, hcell⟩ := ksat_8 (ksat_below hrx.ks hR.bW) (by rw [hy]; exact Nat.zero_lt_one)
  have hkl0 : kb < Z.W0.heap.size := by
    obtain ⟨kb', ko', kc', hkv', _, _, hkl', _⟩ := ksat_8 hrx.ks (by rw [hy]; exact Nat.zero_lt_one)
    rw [hkv] at hkv'; injection hkv' with e; injection e with e; injection e with e; omega
  have hlen : x.kids.length = 1 := by rw [hy]; rfl
  have hcell0 := hcell 0 (by omega)
  have hye : x.kids[0]'(by omega) = y := by simp only [hy]; rfl
  have hry := hrx.kid 0 (by omega)
  rw [hye] at hcell0 hry
  rw [hlen] at hkv
  obtain ⟨yR, yd, hyr⟩ := rwat_len hry.rows
  obtain ⟨yK, ye, hyk⟩ := ksat_len hry.ks
  have hyc : y.cs = [.int .i64 y.k, .string y.ch, .bool y.nt, .slice yR y.rows.length yd, .int .i64 y.mi, .int .i64 y.ma, .bool y.lz, .slice yK y.kids.length ye] := by unfold Rt.cs; rw [hyr, hyk]
  rw [hyr, hyk] at hcell0
  simp only [Nat.zero_mul, Nat.add_zero] at hcell0
  obtain ⟨q0, q1, q2, q3, q4, q5, q6, q7⟩ := hcell0
  have hrb := hR.hrb
  have nk : kb ≠ Z.rb := by omega
  obtain ⟨y', hy', hxy⟩ := hx.one (by omega)
  have hyy : y' = y := by rw [hy] at hy'; injection hy' with e _; exact e.symm
  rw [hyy] at hxy
  have hkg : kgo x g = g := by unfold kgo; rw [if_neg (by omega)]
  rw [hkg] at hxy
  have y3 : w.cell? ⟨Z.rb, 3, none⟩ = some (.int .i64 ((f + 1 : Nat) : Int)) := hR.cm.c 3 _ rfl
  have f3 := hR.cm.f 3
  have nq : Z.rb ≠ b := fun e => hq e.symm
  have nk' : Z.rb ≠ kb := fun e => nk e.symm
  have x1 : w.cell? ⟨b, 1, none⟩ = some (.int .i64 x.k) := hc 1 _ rfl
  have x8 : w.cell? ⟨b, 8, none⟩ = some (.slice (some ⟨kb, ko, none⟩) 1 kc) := by rw [← hkv]; exact hc 8 _ rfl
  have x9 : w.cell? ⟨b, 9, none⟩ = some (.int .i64 ((g : Nat) : Int)) := hc 9 _ rfl
  have x12 : w.cell? ⟨b, 12, none⟩ = some (.pointer a12) := hc 12 _ rfl
  have d0 : (((f + 1 : Nat) : Int) == 0) = false := beq_eq_false_iff_ne.2 (by omega)
  have d0' : (((f : Nat) : Int) + 1 == 0) = false := beq_eq_false_iff_ne.2 (by omega)
  have e5 : (x.k == 5) = false := by rw [hk5]; rfl
  have e6 : (x.k == 6) = true := by rw [hk5]; rfl
  have hg512 : g ≤ 512 := by have := hx.gr; omega
  have HSET := hide (gr_set w Z.rb 3 (.int .i64 ((f : Nat) : Int)))
  obtain ⟨ws, hws⟩ : ∃ W, (w.setCell ⟨Z.rb, 3, none⟩ (.int .i64 ((f : Nat) : Int))) = W := ⟨_, rfl⟩
  rw [hws] at HSET
  have HRS : Hid (RnI Z ws f false) := hide (by rw [← hws]; exact hR.fuel)
  have HTS := hide (hT.gr HSET.out)
  have HPS := hide (hP.gr HSET.out)
  have hrs : Z.rb < ws.heap.size := HRS.out.cm.s
  have HQ := hide (fun (W : World) (hg : ws.grownBy W (some Z.rb)) => (show W.cell? ⟨b, 8, none⟩ = some (.slice (some ⟨kb, ko, none⟩) 1 kc) ∧ W.cell? ⟨b, 9, none⟩ = some (.int .i64 ((g : Nat) : Int)) ∧ W.cell? ⟨b, 12, none⟩ = some (.pointer a12) ∧ W.cell? ⟨kb, ko, none⟩ = some (.int .i64 y.k) ∧ W.cell? ⟨kb, ko + 1, none⟩ = some (.string y.ch) ∧ W.cell? ⟨kb, ko + 2, none⟩ = some (.bool y.nt) ∧ W.cell? ⟨kb, ko + 3, none⟩ = some (.slice yR y.rows.length yd) ∧ W.cell? ⟨kb, ko + 4, none⟩ = some (.int .i64 y.mi) ∧ W.cell? ⟨kb, ko + 5, none⟩ = some (.int .i64 y.ma) ∧ W.cell? ⟨kb, ko + 6, none⟩ = some (.bool y.lz) ∧ W.cell? ⟨kb, ko + 7, none⟩ = some (.slice yK y.kids.length ye) from ⟨cell_gr hg (fun e => nq (by injection e)) (cell_gr HSET.out (fun e => nq (by injection e)) x8), cell_gr hg (fun e => nq (by injection e)) (cell_gr HSET.out (fun e => nq (by injection e)) x9), cell_gr hg (fun e => nq (by injection e)) (cell_gr HSET.out (fun e => nq (by injection e)) x12), cell_gr hg (fun e => nk' (by injection e)) (cell_gr HSET.out (fun e => nk' (by injection e)) q0), cell_gr hg (fun e => nk' (by injection e)) (cell_gr HSET.out (fun e => nk' (by injection e)) q1), cell_gr hg (fun e => nk' (by injection e)) (cell_gr HSET.out (fun e => nk' (by injection e)) q2), cell_gr hg (fun e => nk' (by injection e)) (cell_gr HSET.out (fun e => nk' (by injection e)) q3), cell_gr hg (fun e => nk' (by injection e)) (cell_gr HSET.out (fun e => nk' (by injection e)) q4), cell_gr hg (fun e => nk' (by injection e)) (cell_gr HSET.out (fun e => nk' (by injection e)) q5), cell_gr hg (fun e => nk' (by injection e)) (cell_gr HSET.out (fun e => nk' (by injection e)) q6), cell_gr hg (fun e => nk' (by injection e)) (cell_gr HSET.out (fun e => nk' (by injection e)) q7)⟩))
  have HS0 := hide (HQ.out ws (gr_bl (bl_refl ws) _))
  have HG := hide (fun (W : World) (hbl : Below ws.heap.size ws W) => gr_trans HSET.out (gr_bl hbl (some Z.rb)))
  have HC := hide (fun (W : World) (n1 : Nat) (hbl : Below ws.heap.size ws W) (hge : ws.heap.size ≤ n1) (hcs : ∀ j u, ([.int .i64 0, .int .i64 y.k, .string y.ch, .bool y.nt, .slice yR y.rows.length yd, .int .i64 y.mi, .int .i64 y.ma, .bool y.lz, .slice yK y.kids.length ye, .int .i64 ((g : Nat) : Int), .int .i64 0, .int .i64 0, .pointer a12] : List Value)[j]? = some u → W.cell? ⟨n1, j, none⟩ = some u) => ho W _ _ (HRS.out.bl hbl) (.hold n1 y g ks _ 0 0 (by omega) hry (by rw [hyc]; exact hcs) (HTS.out.bl hbl)) (HPS.out.bl hbl) hi hp (fun t ht => by
    rcases List.mem_cons.1 ht with rfl | ht
    · exact hxy
    · exact hk t ht) (by omega))
  have HWR := hide (And.intro hf hg512)
  have x1s : ws.cell? ⟨b, 1, none⟩ = some (.int .i64 x.k) := cell_gr HSET.out (fun e => nq (by injection e)) x1
  have HSZ := hide (show b < ws.heap.size ∧ kb < ws.heap.size from ⟨World.block_lt_of_cell? _ _ HS0.out.2.1, by omega⟩)
  have ew : IntKind.i64.wrap ((f : Nat) : Int) = (f : Int) := wr_i (by have := HWR.out.1; omega)
  have ew2 : wrap64 ((f : Nat) : Int) = (f : Int) := wr_6 (by have := HWR.out.1; omega)
  have eg : IntKind.i64.wrap (((g : Nat) : Int) + 1) = ((g + 1 : Nat) : Int) := wr_g HWR.out.2
  clear hR hc hT hP hi hp hk hx hf hq hrx hkv hy' hxy hye hy hlen hcell hry hyr hyk hyc hkc hkm hkl hkl0 nk hrb hrs ho hkg hg512
  go_enter Tryz.func110, Tryz.ntmps110
  go_wp2_with fail
  obtain ⟨s0, s1, s2, s3, s4, s5, s6, s7, s8, s9, s10⟩ := HS0.out
  obtain ⟨lb, lk⟩ := HSZ.out
  have nb : ws.heap.size ≠ b := Nat.ne_of_gt lb
  have nkb : ws.heap.size ≠ kb := Nat.ne_of_gt lk
  clear y3 f3 x1 x1s x8 x9 x12 q0 q1 q2 q3 q4 q5 q6 q7 hws
  go_region_held3 (fun W => W.cell? ⟨b, 8, none⟩ = some (.slice (some ⟨kb, ko, none⟩) 1 kc) ∧ W.cell? ⟨b, 9, none⟩ = some (.int .i64 ((g : Nat) : Int)) ∧ W.cell? ⟨b, 12, none⟩ = some (.pointer a12) ∧ W.cell? ⟨kb, ko, none⟩ = some (.int .i64 y.k) ∧ W.cell? ⟨kb, ko + 1, none⟩ = some (.string y.ch) ∧ W.cell? ⟨kb, ko + 2, none⟩ = some (.bool y.nt) ∧ W.cell? ⟨kb, ko + 3, none⟩ = some (.slice yR y.rows.length yd) ∧ W.cell? ⟨kb, ko + 4, none⟩ = some (.int .i64 y.mi) ∧ W.cell? ⟨kb, ko + 5, none⟩ = some (.int .i64 y.ma) ∧ W.cell? ⟨kb, ko + 6, none⟩ = some (.bool y.lz) ∧ W.cell? ⟨kb, ko + 7, none⟩ = some (.slice yK y.kids.length ye) ∧ True)
    (first | (refine ⟨?_, ?_, ?_, ?_, ?_, ?_, ?_, ?_, ?_, ?_, ?_, trivial⟩ <;> (repeat (first | with_reducible assumption | with_reducible refine dr_blk ?_ | with_reducible refine al_blk ?_)); done) | go_keep)
    (first | (go_at_call 78; refine (HC.out _ _ (by repeat (first | exact bl_refl _ | refine bl_drew ?_ | refine bl_alloc ?_ _)) (by simp) (by intro j u hu; repeat (first | exact cells_new _ _ _ j u hu | refine dr_blk ?_ | refine al_blk ?_))).mono ?_; rintro e w6 hp6; have HP6 := hide (hp6.from (HG.out _ (by repeat (first | exact bl_refl _ | refine bl_drew ?_ | refine bl_alloc ?_ _)))); obtain ⟨a4, A4, n4, c4', ok4, rfl⟩ := hp6.form; obtain ⟨z0, z1, z2, z3, z4, z5, z6, z7, z8, z9, z10⟩ := HQ.out _ (gr_trans (gr_bl (by repeat (first | exact bl_refl _ | refine bl_drew ?_ | refine bl_alloc ?_ _)) _) hp6.1); clear hp6) | fail)
  go_wp2_with fail
  refine bodyPost_ret (v := .tuple #[.int .i64 a4, .slice A4 n4 c4', .bool ok4]) ?_ rfl HP6.out
  rw [results_tmp3 rfl]
  go_simp
set_option maxHeartbeats 16000000 in
theorem bu_group (hZ : Z.Ok) (f : Nat) (x y : Rt) (g : Nat) (ks : List Kt) (i : Nat) (p : List (Int × Int)) (r : Ro) (hk5 : x.k = 5) (hy : x.kids = [y]) (ho : OnC Z f (.hold y (g + 1) :: .ended g i :: ks) i p r) : BuC Z (f + 1) x g ks i p r := by
  intro w b rv v hR hB hT hP hi hp hk hx hf
  obtain ⟨hq, hrx, kd, m, fr, hc⟩ := hB
  obtain ⟨A, c, rfl⟩ := own_slice hP.1
  obtain ⟨a12, rfl⟩ := hT.ptr
  obtain ⟨kb, ko, kc, hkv, hkc, hkm, hkl, hcell⟩ := ksat_8 (ksat_below hrx.ks hR.bW) (by rw [hy]; exact Nat.zero_lt_one)
  have hkl0 : kb < Z.W0.heap.size := by
    obtain ⟨kb', ko', kc', hkv', _, _, hkl', _⟩ := ksat_8 hrx.ks (by rw [hy]; exact Nat.zero_lt_one)
    rw [hkv] at hkv'; injection hkv' with e; injection e with e; injection e with e; omega
  have hlen : x.kids.length = 1 := by rw [hy]; rfl
  have hcell0 := hcell 0 (by omega)
  have hye : x.kids[0]'(by omega) = y := by simp only [hy]; rfl
  have hry := hrx.kid 0 (by omega)
  rw [hye] at hcell0 hry
  rw [hlen] at hkv
  obtain ⟨yR, yd, hyr⟩ := rwat_len hry.rows
  obtain ⟨yK, ye, hyk⟩ := ksat_len hry.ks
  have hyc : y.cs = [.int .i64 y.k, .string y.ch, .bool y.nt, .slice yR y.rows.length yd, .int .i64 y.mi, .int .i64 y.ma, .bool y.lz, .slice yK y.kids.length ye] := by unfold Rt.cs; rw [hyr, hyk]
  rw [hyr, hyk] at hcell0
  simp only [Nat.zero_mul, Nat.add_zero] at hcell0
  obtain ⟨q0, q1, q2, q3, q4, q5, q6, q7⟩ := hcell0
  have hrb := hR.hrb
  have nk : kb ≠ Z.rb := by omega
  obtain ⟨y', hy', hxy⟩ := hx.one (by omega)
  have hyy : y' = y := by rw [hy] at hy'; injection hy' with e _; exact e.symm
  rw [hyy] at hxy
  have hkg : kgo x g = g + 1 := by unfold kgo; rw [if_pos hk5]
  rw [hkg] at hxy
  have y3 : w.cell? ⟨Z.rb, 3, none⟩ = some (.int .i64 ((f + 1 : Nat) : Int)) := hR.cm.c 3 _ rfl
  have f3 := hR.cm.f 3
  have nq : Z.rb ≠ b := fun e => hq e.symm
  have nk' : Z.rb ≠ kb := fun e => nk e.symm
  have x1 : w.cell? ⟨b, 1, none⟩ = some (.int .i64 x.k) := hc 1 _ rfl
  have x8 : w.cell? ⟨b, 8, none⟩ = some (.slice (some ⟨kb, ko, none⟩) 1 kc) := by rw [← hkv]; exact hc 8 _ rfl
  have x9 : w.cell? ⟨b, 9, none⟩ = some (.int .i64 ((g : Nat) : Int)) := hc 9 _ rfl
  have x12 : w.cell? ⟨b, 12, none⟩ = some (.pointer a12) := hc 12 _ rfl
  have d0 : (((f + 1 : Nat) : Int) == 0) = false := beq_eq_false_iff_ne.2 (by omega)
  have d0' : (((f : Nat) : Int) + 1 == 0) = false := beq_eq_false_iff_ne.2 (by omega)
  have e5 : (x.k == 5) = true := by rw [hk5]; rfl
  have e6 : (x.k == 6) = false := by rw [hk5]; rfl
  have hg512 : g ≤ 512 := by have := hx.gr; omega
  have HSET := hide (gr_set w Z.rb 3 (.int .i64 ((f : Nat) : Int)))
  obtain ⟨ws, hws⟩ : ∃ W, (w.setCell ⟨Z.rb, 3, none⟩ (.int .i64 ((f : Nat) : Int))) = W := ⟨_, rfl⟩
  rw [hws] at HSET
  have HRS : Hid (RnI Z ws f false) := hide (by rw [← hws]; exact hR.fuel)
  have HTS := hide (hT.gr HSET.out)
  have HPS := hide (hP.gr HSET.out)
  have hrs : Z.rb < ws.heap.size := HRS.out.cm.s
  have HQ := hide (fun (W : World) (hg : ws.grownBy W (some Z.rb)) => (show W.cell? ⟨b, 8, none⟩ = some (.slice (some ⟨kb, ko, none⟩) 1 kc) ∧ W.cell? ⟨b, 9, none⟩ = some (.int .i64 ((g : Nat) : Int)) ∧ W.cell? ⟨b, 12, none⟩ = some (.pointer a12) ∧ W.cell? ⟨kb, ko, none⟩ = some (.int .i64 y.k) ∧ W.cell? ⟨kb, ko + 1, none⟩ = some (.string y.ch) ∧ W.cell? ⟨kb, ko + 2, none⟩ = some (.bool y.nt) ∧ W.cell? ⟨kb, ko + 3, none⟩ = some (.slice yR y.rows.length yd) ∧ W.cell? ⟨kb, ko + 4, none⟩ = some (.int .i64 y.mi) ∧ W.cell? ⟨kb, ko + 5, none⟩ = some (.int .i64 y.ma) ∧ W.cell? ⟨kb, ko + 6, none⟩ = some (.bool y.lz) ∧ W.cell? ⟨kb, ko + 7, none⟩ = some (.slice yK y.kids.length ye) from ⟨cell_gr hg (fun e => nq (by injection e)) (cell_gr HSET.out (fun e => nq (by injection e)) x8), cell_gr hg (fun e => nq (by injection e)) (cell_gr HSET.out (fun e => nq (by injection e)) x9), cell_gr hg (fun e => nq (by injection e)) (cell_gr HSET.out (fun e => nq (by injection e)) x12), cell_gr hg (fun e => nk' (by injection e)) (cell_gr HSET.out (fun e => nk' (by injection e)) q0), cell_gr hg (fun e => nk' (by injection e)) (cell_gr HSET.out (fun e => nk' (by injection e)) q1), cell_gr hg (fun e => nk' (by injection e)) (cell_gr HSET.out (fun e => nk' (by injection e)) q2), cell_gr hg (fun e => nk' (by injection e)) (cell_gr HSET.out (fun e => nk' (by injection e)) q3), cell_gr hg (fun e => nk' (by injection e)) (cell_gr HSET.out (fun e => nk' (by injection e)) q4), cell_gr hg (fun e => nk' (by injection e)) (cell_gr HSET.out (fun e => nk' (by injection e)) q5), cell_gr hg (fun e => nk' (by injection e)) (cell_gr HSET.out (fun e => nk' (by injection e)) q6), cell_gr hg (fun e => nk' (by injection e)) (cell_gr HSET.out (fun e => nk' (by injection e)) q7)⟩))
  have HS0 := hide (HQ.out ws (gr_bl (bl_refl ws) _))
  have HG := hide (fun (W : World) (hbl : Below ws.heap.size ws W) => gr_trans HSET.out (gr_bl hbl (some Z.rb)))
  obtain ⟨w7, hw7⟩ : ∃ W, (ws.alloc (.cells #[.int .i64 1, .int .i64 0, .string ⟨#[]⟩, .bool false, .slice none 0 0, .int .i64 0, .int .i64 0, .bool false, .slice none 0 0, .int .i64 ((g : Nat) : Int), .int .i64 0, .int .i64 ((i : Nat) : Int), .pointer a12] 132)).drew = W := ⟨_, rfl⟩
  have HB7 : Hid (Below ws.heap.size ws w7) := hide (by rw [← hw7]; exact bl_drew (bl_alloc (bl_refl _) _))
  have HN7 : Hid (∀ j u, ([.int .i64 1, .int .i64 0, .string ⟨#[]⟩, .bool false, .slice none 0 0, .int .i64 0, .int .i64 0, .bool false, .slice none 0 0, .int .i64 ((g : Nat) : Int), .int .i64 0, .int .i64 ((i : Nat) : Int), .pointer a12] : List Value)[j]? = some u → w7.cell? ⟨ws.heap.size, j, none⟩ = some u) := hide (by rw [← hw7]; exact fun j u hu => dr_blk (cells_new ws [.int .i64 1, .int .i64 0, .string ⟨#[]⟩, .bool false, .slice none 0 0, .int .i64 0, .int .i64 0, .bool false, .slice none 0 0, .int .i64 ((g : Nat) : Int), .int .i64 0, .int .i64 ((i : Nat) : Int), .pointer a12] _ j u hu))
  have HQ7 := hide (fun (W : World) (hg : w7.grownBy W (some Z.rb)) => HQ.out W (gr_trans (gr_bl HB7.out _) hg))
  have HG7 := hide (fun (W : World) (hbl : Below w7.heap.size w7 W) => HG.out W (bl_trans HB7.out hbl))
  have HS7 := hide (HQ7.out w7 (gr_bl (bl_refl w7) _))
  have HC := hide (fun (W : World) (n1 : Nat) (hbl : Below w7.heap.size w7 W) (hge : w7.heap.size ≤ n1) (hcs : ∀ j u, ([.int .i64 0, .int .i64 y.k, .string y.ch, .bool y.nt, .slice yR y.rows.length yd, .int .i64 y.mi, .int .i64 y.ma, .bool y.lz, .slice yK y.kids.length ye, .int .i64 ((g + 1 : Nat) : Int), .int .i64 0, .int .i64 0, .pointer (some ⟨ws.heap.size, 0, none⟩)] : List Value)[j]? = some u → W.cell? ⟨n1, j, none⟩ = some u) => ho W _ _ ((HRS.out.bl HB7.out).bl hbl) (.hold n1 y (g + 1) (.ended g i :: ks) _ 0 0 (by have := HB7.out.size; omega) hry (by rw [hyc]; exact hcs) (.ended ws.heap.size (.mk 0 ⟨#[]⟩ false (.slice none 0 0) [] 0 0 false (.slice none 0 0) []) g i ks _ 0 (by omega) (fun j u hu => cell_later hbl (HN7.out j u hu)) ((HTS.out.bl HB7.out).bl hbl))) ((HPS.out.bl HB7.out).bl hbl) hi hp (fun t ht => by
    rcases List.mem_cons.1 ht with rfl | ht
    · exact hxy
    · rcases List.mem_cons.1 ht with rfl | ht
      · exact ⟨by have := hx.gr; have := gM_eq x; rw [if_pos hk5] at this; omega, Nat.le_refl _⟩
      · exact hk t ht) (by omega))
  have HWR := hide (And.intro hf hg512)
  have x1s : ws.cell? ⟨b, 1, none⟩ = some (.int .i64 x.k) := cell_gr HSET.out (fun e => nq (by injection e)) x1
  have HSZ := hide (show b < ws.heap.size ∧ kb < ws.heap.size from ⟨World.block_lt_of_cell? _ _ HS0.out.2.1, by omega⟩)
  have ew : IntKind.i64.wrap ((f : Nat) : Int) = (f : Int) := wr_i (by have := HWR.out.1; omega)
  have ew2 : wrap64 ((f : Nat) : Int) = (f : Int) := wr_6 (by have := HWR.out.1; omega)
  have eg : IntKind.i64.wrap (((g : Nat) : Int) + 1) = ((g + 1 : Nat) : Int) := wr_g HWR.out.2
  clear hR hc hT hP hi hp hk hx hf hq hrx hkv hy' hxy hye hy hlen hcell hry hyr hyk hyc hkc hkm hkl hkl0 nk hrb hrs ho hkg hg512
  go_enter Tryz.func110, Tryz.ntmps110
  go_wp2_with fail
  obtain ⟨s0, s1, s2, s3, s4, s5, s6, s7, s8, s9, s10⟩ := HS0.out
  obtain ⟨lb, lk⟩ := HSZ.out
  have nb : ws.heap.size ≠ b := Nat.ne_of_gt lb
  have nkb : ws.heap.size ≠ kb := Nat.ne_of_gt lk
  clear y3 f3 x1 x1s x8 x9 x12 q0 q1 q2 q3 q4 q5 q6 q7 hws
  go_region
  go_wp2_with fail
  have lb7 : b < w7.heap.size := Nat.lt_of_lt_of_le lb HB7.out.size
  have lk7 : kb < w7.heap.size := Nat.lt_of_lt_of_le lk HB7.out.size
  have nb7 : w7.heap.size ≠ b := Nat.ne_of_gt lb7
  have nkb7 : w7.heap.size ≠ kb := Nat.ne_of_gt lk7
  clear s0 s1 s2 s3 s4 s5 s6 s7 s8 s9 s10 hw7 nb nkb lb lk
  obtain ⟨s0, s1, s2, s3, s4, s5, s6, s7, s8, s9, s10⟩ := HS7.out
  go_region_held3 (fun W => W.cell? ⟨b, 8, none⟩ = some (.slice (some ⟨kb, ko, none⟩) 1 kc) ∧ W.cell? ⟨b, 9, none⟩ = some (.int .i64 ((g : Nat) : Int)) ∧ W.cell? ⟨b, 12, none⟩ = some (.pointer a12) ∧ W.cell? ⟨kb, ko, none⟩ = some (.int .i64 y.k) ∧ W.cell? ⟨kb, ko + 1, none⟩ = some (.string y.ch) ∧ W.cell? ⟨kb, ko + 2, none⟩ = some (.bool y.nt) ∧ W.cell? ⟨kb, ko + 3, none⟩ = some (.slice yR y.rows.length yd) ∧ W.cell? ⟨kb, ko + 4, none⟩ = some (.int .i64 y.mi) ∧ W.cell? ⟨kb, ko + 5, none⟩ = some (.int .i64 y.ma) ∧ W.cell? ⟨kb, ko + 6, none⟩ = some (.bool y.lz) ∧ W.cell? ⟨kb, ko + 7, none⟩ = some (.slice yK y.kids.length ye) ∧ True)
    (first | (refine ⟨?_, ?_, ?_, ?_, ?_, ?_, ?_, ?_, ?_, ?_, ?_, trivial⟩ <;> (repeat (first | with_reducible assumption | with_reducible refine dr_blk ?_ | with_reducible refine al_blk ?_)); done) | go_keep)
    (first | (go_at_call 78; refine (HC.out _ _ (by repeat (first | exact bl_refl _ | refine bl_drew ?_ | refine bl_alloc ?_ _)) (by simp) (by intro j u hu; repeat (first | exact cells_new _ _ _ j u hu | refine dr_blk ?_ | refine al_blk ?_))).mono ?_; rintro e w6 hp6; have HP6 := hide (hp6.from (HG7.out _ (by repeat (first | exact bl_refl _ | refine bl_drew ?_ | refine bl_alloc ?_ _)))); obtain ⟨a4, A4, n4, c4', ok4, rfl⟩ := hp6.form; obtain ⟨z0, z1, z2, z3, z4, z5, z6, z7, z8, z9, z10⟩ := HQ7.out _ (gr_trans (gr_bl (by repeat (first | exact bl_refl _ | refine bl_drew ?_ | refine bl_alloc ?_ _)) _) hp6.1); clear hp6) | fail)
  go_wp2_with fail
  refine bodyPost_ret (v := .tuple #[.int .i64 a4, .slice A4 n4 c4', .bool ok4]) ?_ rfl HP6.out
  rw [results_tmp3 rfl]
  go_simp
end
end Go.Proofs.YtcnliipkfccohaaGreat
end
section
namespace Go.Proofs.YtcnliipkfccohaaGreat
open Go.ChangeShapes Go.WideShapes Go.ChangeAt Go.RowKit
open SetM SpanM
attribute [local go_sem ↓] Go.wp_at_zero Go.wp_at_succ
set_option maxRecDepth 100000
set_option linter.unusedVariables false
attribute [local go_sem] later_cell later_frozen
theorem clearP_len' (p : List (Int × Int)) (g n : Nat) : (clearP p g n).length = p.length := by simp [clearP]
theorem wr_m {n : Nat} (h : n ≤ 100000) : IntKind.i64.wrap (((n : Nat) : Int) + 1) = ((n + 1 : Nat) : Int) := by rw [IntKind.wrap_i64]; omega
theorem wr_n {n : Nat} (h : n ≤ 100000) : IntKind.i64.wrap (((n : Nat) : Int) + 1) = ((n : Nat) : Int) + 1 := by rw [IntKind.wrap_i64]; omega
theorem wr_a {g n : Nat} (h : g + n ≤ 100000) : IntKind.i64.wrap (((g : Nat) : Int) + ((n : Nat) : Int)) = ((g + n : Nat) : Int) := by rw [IntKind.wrap_i64]; omega
theorem clear_step (p : List (Int × Int)) (g j : Nat) (h : g + j < p.length) : clearP p g (j + 1) = (clearP p g j).set (g + j) (-1, -1) := by
  unfold clearP
  apply List.ext_getElem
  · simp
  · intro n h1 h2
    simp only [List.getElem_set, List.getElem_mapIdx]
    by_cases e : g + j = n
    · rw [if_pos e, if_pos (by omega)]
    · rw [if_neg e]
      by_cases e2 : g ≤ n ∧ n < g + j
      · rw [if_pos e2, if_pos (by omega)]
      · rw [if_neg e2, if_neg (by omega)]
theorem clear_zero (p : List (Int × Int)) (g : Nat) : clearP p g 0 = p := by
  unfold clearP
  apply List.ext_getElem
  · simp
  · intro n h1 h2
    simp only [List.getElem_mapIdx]
    rw [if_neg (by omega)]
section
variable {Z : Rn}
set_option maxHeartbeats 16000000 in
theorem tm_mk (hZ : Z.Ok) (f : Nat) (x y : Rt) (g m : Nat) (ks : List Kt) (i : Nat) (p : List (Int × Int)) (r : Ro) (hy : x.kids = [y]) (ho : OnC Z f (.hold y g :: .again x g (m + 1) i :: ks) i (clearP p g (gM x)) r) : TmC Z f x g m ks i p r := by
  intro w b rv v hR hB hT hP hi hp hk hx hk7 hm hf
  obtain ⟨hq, hrx, kd, fr, hc⟩ := hB
  obtain ⟨A, c, rfl⟩ := own_slice hP.1
  obtain ⟨a12, rfl⟩ := hT.ptr
  obtain ⟨kb, ko, kc, hkv, hkc, hkm, hkl, hcell⟩ := ksat_8 (ksat_below hrx.ks hR.bW) (by rw [hy]; exact Nat.zero_lt_one)
  have hlen : x.kids.length = 1 := by rw [hy]; rfl
  have hcell0 := hcell 0 (by omega)
  have hye : x.kids[0]'(by omega) = y := by simp only [hy]; rfl
  have hry := hrx.kid 0 (by omega)
  rw [hye] at hcell0 hry
  rw [hlen] at hkv
  obtain ⟨yR, yd, hyr⟩ := rwat_len hry.rows
  obtain ⟨yK, ye, hyk⟩ := ksat_len hry.ks
  obtain ⟨xR, xd, hxr⟩ := rwat_len hrx.rows
  have hyc : y.cs = [.int .i64 y.k, .string y.ch, .bool y.nt, .slice yR y.rows.length yd, .int .i64 y.mi, .int .i64 y.ma, .bool y.lz, .slice yK y.kids.length ye] := by unfold Rt.cs; rw [hyr, hyk]
  have hxc : x.cs = [.int .i64 x.k, .string x.ch, .bool x.nt, .slice xR x.rows.length xd, .int .i64 x.mi, .int .i64 x.ma, .bool x.lz, .slice (some ⟨kb, ko, none⟩) 1 kc] := by unfold Rt.cs; rw [hxr, hkv]
  have hxv : x.v = .agg #[.int .i64 x.k, .string x.ch, .bool x.nt, .slice xR x.rows.length xd, .int .i64 x.mi, .int .i64 x.ma, .bool x.lz, .slice (some ⟨kb, ko, none⟩) 1 kc] := by unfold Rt.v Rt.cs; rw [hxr, hkv]
  rw [hyr, hyk] at hcell0
  simp only [Nat.zero_mul, Nat.add_zero] at hcell0
  obtain ⟨q0, q1, q2, q3, q4, q5, q6, q7⟩ := hcell0
  obtain ⟨y', hy', hxy⟩ := hx.one (by omega)
  have hyy : y' = y := by rw [hy] at hy'; injection hy' with e _; exact e.symm
  rw [hyy] at hxy
  have hkg : kgo x g = g := by unfold kgo; rw [if_neg (by omega)]
  rw [hkg] at hxy
  rw [hxc] at hc
  have x1 : w.cell? ⟨b, 1, none⟩ = some (.int .i64 x.k) := hc 1 _ rfl
  have x2 : w.cell? ⟨b, 2, none⟩ = some (.string x.ch) := hc 2 _ rfl
  have x3 : w.cell? ⟨b, 3, none⟩ = some (.bool x.nt) := hc 3 _ rfl
  have x4 : w.cell? ⟨b, 4, none⟩ = some (.slice xR x.rows.length xd) := hc 4 _ rfl
  have x5 : w.cell? ⟨b, 5, none⟩ = some (.int .i64 x.mi) := hc 5 _ rfl
  have x6 : w.cell? ⟨b, 6, none⟩ = some (.int .i64 x.ma) := hc 6 _ rfl
  have x7 : w.cell? ⟨b, 7, none⟩ = some (.bool x.lz) := hc 7 _ rfl
  have x8 : w.cell? ⟨b, 8, none⟩ = some (.slice (some ⟨kb, ko, none⟩) 1 kc) := hc 8 _ rfl
  have x9 : w.cell? ⟨b, 9, none⟩ = some (.int .i64 ((g : Nat) : Int)) := hc 9 _ rfl
  have x10 : w.cell? ⟨b, 10, none⟩ = some (.int .i64 ((m : Nat) : Int)) := hc 10 _ rfl
  have x12 : w.cell? ⟨b, 12, none⟩ = some (.pointer a12) := hc 12 _ rfl
  have hgp : g + gM x ≤ p.length := hx.gr
  have hrb : Z.rb < w.heap.size := hR.cm.s
  obtain ⟨i0, hi0, hz0', hz1, hz2⟩ := info_parts info_sp
  have HSRC := hide (fun (W : World) (hb : Below w.heap.size w W) => src_below (own_src hP.1) hb)
  have HNEW := hide (show (w.alloc (.cells #[] 29)).ownsRow w.heap.size 29 2 (.slice (some ⟨w.heap.size, 0, none⟩) 0 0) 0 [] from own_at (heap_new rfl) (Nat.le_refl _))
  have HONE := hide (show ∀ u ∈ flat p, u.oneCell' = true from flat_one p)
  have HB4 := hide (fun (W : World) (hg : (w.alloc (.cells #[] 29)).grownBy W (Value.slice (some ⟨w.heap.size, 0, none⟩) 0 0).ownBlock) => (show Below w.heap.size w W from bl_own (bl_alloc (bl_refl w) _) HNEW.out hg (Nat.le_refl _)))
  have HPL := hide (show 0 + p.length ≤ 100000000 by omega)
  have hkl0 : kb < Z.W0.heap.size := by
    obtain ⟨kb', ko', kc', hkv', _, _, hkl', _⟩ := ksat_8 hrx.ks (by rw [hy]; exact Nat.zero_lt_one)
    rw [hkv] at hkv'; injection hkv' with e; injection e with e; injection e with e; omega
  have hrb0 := hR.hrb
  have nq : Z.rb ≠ b := fun e => hq e.symm
  have nk : Z.rb ≠ kb := by omega
  have HQ := hide (fun (W : World) (hg : w.grownBy W (some Z.rb)) => (show (W.cell? ⟨b, 1, none⟩ = some (.int .i64 x.k) ∧ W.cell? ⟨b, 2, none⟩ = some (.string x.ch) ∧ W.cell? ⟨b, 3, none⟩ = some (.bool x.nt) ∧ W.cell? ⟨b, 4, none⟩ = some (.slice xR x.rows.length xd) ∧ W.cell? ⟨b, 5, none⟩ = some (.int .i64 x.mi) ∧ W.cell? ⟨b, 6, none⟩ = some (.int .i64 x.ma) ∧ W.cell? ⟨b, 7, none⟩ = some (.bool x.lz) ∧ W.cell? ⟨b, 8, none⟩ = some (.slice (some ⟨kb, ko, none⟩) 1 kc) ∧ W.cell? ⟨b, 9, none⟩ = some (.int .i64 ((g : Nat) : Int)) ∧ W.cell? ⟨b, 10, none⟩ = some (.int .i64 ((m : Nat) : Int)) ∧ W.cell? ⟨b, 12, none⟩ = some (.pointer a12)) ∧ (W.cell? ⟨kb, ko, none⟩ = some (.int .i64 y.k) ∧ W.cell? ⟨kb, ko + 1, none⟩ = some (.string y.ch) ∧ W.cell? ⟨kb, ko + 2, none⟩ = some (.bool y.nt) ∧ W.cell? ⟨kb, ko + 3, none⟩ = some (.slice yR y.rows.length yd) ∧ W.cell? ⟨kb, ko + 4, none⟩ = some (.int .i64 y.mi) ∧ W.cell? ⟨kb, ko + 5, none⟩ = some (.int .i64 y.ma) ∧ W.cell? ⟨kb, ko + 6, none⟩ = some (.bool y.lz) ∧ W.cell? ⟨kb, ko + 7, none⟩ = some (.slice yK y.kids.length ye)) from ⟨⟨cell_gr hg (fun e => nq (by injection e)) x1, cell_gr hg (fun e => nq (by injection e)) x2, cell_gr hg (fun e => nq (by injection e)) x3, cell_gr hg (fun e => nq (by injection e)) x4, cell_gr hg (fun e => nq (by injection e)) x5, cell_gr hg (fun e => nq (by injection e)) x6, cell_gr hg (fun e => nq (by injection e)) x7, cell_gr hg (fun e => nq (by injection e)) x8, cell_gr hg (fun e => nq (by injection e)) x9, cell_gr hg (fun e => nq (by injection e)) x10, cell_gr hg (fun e => nq (by injection e)) x12⟩, cell_gr hg (fun e => nk (by injection e)) q0, cell_gr hg (fun e => nk (by injection e)) q1, cell_gr hg (fun e => nk (by injection e)) q2, cell_gr hg (fun e => nk (by injection e)) q3, cell_gr hg (fun e => nk (by injection e)) q4, cell_gr hg (fun e => nk (by injection e)) q5, cell_gr hg (fun e => nk (by injection e)) q6, cell_gr hg (fun e => nk (by injection e)) q7⟩))
  have HGX := hide (fun (W : World) (hb : Below w.heap.size w W) => rgroups_any hrx (by have := hx.pt; omega) W (bl_trans hR.bW hb))
  rw [hxv] at HGX
  obtain ⟨gx, hgx⟩ : ∃ n, gM x = n := ⟨_, rfl⟩
  rw [hgx] at HGX hgp ho
  have hmb : m ≤ 3000 := by have := (hx.rep hk7).2.1; have := hZ.len; have := hZ.max; omega
  have HC0 := hide (fun (we W : World) (n1 : Nat) (v' : Value) (hbe : Below w.heap.size w we) (hbl : Below we.heap.size we W) (hn : ∀ j u, ([.int .i64 2, .int .i64 x.k, .string x.ch, .bool x.nt, .slice xR x.rows.length xd, .int .i64 x.mi, .int .i64 x.ma, .bool x.lz, .slice (some ⟨kb, ko, none⟩) 1 kc, .int .i64 ((g : Nat) : Int), .int .i64 (((m : Nat) : Int) + 1), .int .i64 ((i : Nat) : Int), .pointer a12] : List Value)[j]? = some u → W.cell? ⟨we.heap.size, j, none⟩ = some u) (hge : we.heap.size ≤ n1) (hcs : ∀ j u, ([.int .i64 0, .int .i64 y.k, .string y.ch, .bool y.nt, .slice yR y.rows.length yd, .int .i64 y.mi, .int .i64 y.ma, .bool y.lz, .slice yK y.kids.length ye, .int .i64 ((g : Nat) : Int), .int .i64 0, .int .i64 0, .pointer (some ⟨we.heap.size, 0, none⟩)] : List Value)[j]? = some u → W.cell? ⟨n1, j, none⟩ = some u) (hpa : PaAt Z.rb W v' (clearP p g gx)) => ho W _ v' (hR.bl (bl_trans hbe hbl)) (.hold n1 y g _ _ 0 0 (by have := hbe.size; omega) hry (by rw [hyc]; exact hcs) (.again we.heap.size x g (m + 1) i ks _ (by have := hbe.size; omega) hrx (by rw [hxc]; exact hn) (hT.bl (bl_trans hbe hbl)))) hpa hi (by rw [clearP_len']; exact hp) (fun t ht => by
    rw [clearP_len']
    rcases List.mem_cons.1 ht with rfl | ht
    · exact hxy
    · rcases List.mem_cons.1 ht with rfl | ht
      · exact ⟨hx, hk7, Nat.succ_le_succ (Nat.zero_le _), by omega, Nat.le_refl _⟩
      · exact hk t ht) hf)
  have HG := hide (fun (W : World) (hb : Below w.heap.size w W) => gr_bl hb (some Z.rb))
  have HGP := hide (And.intro hgp hp)
  have HRB := hide hrb
  have em : IntKind.i64.wrap (((m : Nat) : Int) + 1) = ((m : Nat) : Int) + 1 := wr_n (Nat.le_trans hmb (by decide))
  have HLB := hide (show b < w.heap.size ∧ kb < w.heap.size from ⟨World.block_lt_of_cell? _ _ x9, hkl⟩)
  clear hR hc hT hP hi hp hk hx hk7 hm hf hq hrx hkv hkc hkm hkl hkl0 hrb0 nq nk hcell hlen hye hry hyr hyk hxr hyc hxc hxv hy' hxy hyy hkg hgp hrb ho hy hgx hmb q0 q1 q2 q3 q4 q5 q6 q7 x1 x2 x3 x4 x5 x6 x7 x8 x9 x10 x12
  go_enter Tryz.func138, Tryz.ntmps138
  go_wp2_with (at_builtin; go_must (refine wpList_src5 _ rfl _ _ 30 rfl w.heap.size 29 i0 (.agg #[.int .i64 0, .int .i64 0]) 2 16 Tryz.underlying30 hi0 hz0' hz1 hz2 rfl (by decide) (.slice (some ⟨w.heap.size, 0, none⟩) 0 0) 0 [] rfl HNEW.out A p.length c (flat p) rfl (HSRC.out _ (bl_alloc (bl_refl w) _)) HONE.out HPL.out (by decide) (by simp) ?_); intro v4 w4 hv4 hg4 h5)
  have HB5 := hide (HB4.out w4 hg4)
  rw [Nat.zero_add, List.nil_append] at hv4
  obtain ⟨B4, c4, rfl⟩ := own_slice hv4
  have HV5 := hide (show w4.ownsRow w.heap.size 29 2 (.slice B4 p.length c4) p.length (flat (clearP p g 0)) by rw [clear_zero]; exact hv4)
  clear hv4 hg4 h5 HB4 HNEW HSRC HONE HPL
  go_wp2
  go_loopw [12] (fun j wr => ∃ n : Nat, j = .int .i64 n ∧ n ≤ gx ∧ Hid (Below w.heap.size w wr) ∧ Hid (wr.ownsRow w.heap.size 29 2 (.slice B4 p.length c4) p.length (flat (clearP p g n)))) (fun j _ => gx - (intOf j).toNat)
  case atStart => exact ⟨0, rfl, Nat.zero_le _, HB5, HV5⟩
  case round =>
    obtain ⟨n, rfl, hn, HBR, HVR⟩ := hrel
    obtain ⟨⟨x1, x2, x3, x4, x5, x6, x7, x8, x9, x10, x12⟩, q0, q1, q2, q3, q4, q5, q6, q7⟩ := HQ.out _ (gr_bl HBR.out _)
    go_wp2_with fail
    refine (HGX.out _ HBR.out).mono ?_
    rintro e we ⟨rfl, hbe⟩
    have HBE := hide (bl_trans HBR.out hbe)
    have HVE := hide (own_below HVR.out hbe)
    clear hbe x1 x2 x3 x4 x5 x6 x7 x8 x9 x10 x12 q0 q1 q2 q3 q4 q5 q6 q7
    obtain ⟨⟨x1, x2, x3, x4, x5, x6, x7, x8, x9, x10, x12⟩, q0, q1, q2, q3, q4, q5, q6, q7⟩ := HQ.out _ (gr_bl HBE.out _)
    by_cases hlt : n < gx
    · have gl : decide ((n : Int) < (gx : Int)) = true := decide_eq_true (by omega)
      have gl' : decide (n < gx) = true := decide_eq_true hlt
      have hve := HVE.out
      rcases own_form hve with ⟨_, hz, _⟩ | ⟨B, c', hv, hB1, hB2, hB3, _, hcell⟩
      · exact absurd hz (by have := HGP.out; omega)
      injection hv with hv _ hc'
      subst hv hc'
      have hgn : g + n < (clearP p g n).length := by rw [clearP_len']; have := HGP.out; omega
      obtain ⟨u0, b0⟩ : ∃ u, we.cell? ⟨B, (g + n) * 2, none⟩ = some (.int .i64 u) := ⟨_, hcell ((g + n) * 2) _ (flat_at _ (g + n) hgn).1⟩
      obtain ⟨u1, b1⟩ : ∃ u, we.cell? ⟨B, (g + n) * 2 + 1, none⟩ = some (.int .i64 u) := ⟨_, hcell ((g + n) * 2 + 1) _ (flat_at _ (g + n) hgn).2⟩
      have fz0 : we.frozen? ⟨B, (g + n) * 2, none⟩ = false := World.ownsRow.frozenAt hve _
      have fz1 : we.frozen? ⟨B, (g + n) * 2 + 1, none⟩ = false := World.ownsRow.frozenAt hve _
      have HV2 := hide (show ((we.setCell ⟨B, (g + n) * 2, none⟩ (.int .i64 (-1))).setCell ⟨B, (g + n) * 2 + 1, none⟩ (.int .i64 (-1))).ownsRow w.heap.size 29 2 (.slice (some ⟨B, 0, none⟩) p.length c4) p.length (flat (clearP p g (n + 1))) by rw [clear_step p g n (by have := HGP.out; omega)]; exact own_putS hve (g + n) hgn (-1, -1))
      have HB2 := hide (show Below w.heap.size w ((we.setCell ⟨B, (g + n) * 2, none⟩ (.int .i64 (-1))).setCell ⟨B, (g + n) * 2 + 1, none⟩ (.int .i64 (-1))) from bl_set (bl_set HBE.out hB1 _) hB1 _)
      have i1 : (0 : Int) ≤ (g : Int) + (n : Int) := by omega
      have i2 : (g : Int) + (n : Int) < (p.length : Int) := by have := HGP.out; omega
      have ej : IntKind.i64.wrap ((g : Int) + (n : Int)) = ((g + n : Nat) : Int) := wr_a (by have := HGP.out; omega)
      have ej2 : ((g : Int) + (n : Int)).toNat = g + n := by omega
      have en : IntKind.i64.wrap ((n : Int) + 1) = (n : Int) + 1 := wr_n (by have := HGP.out; omega)
      have i3 : (0 : Int) ≤ ((g + n : Nat) : Int) := by omega
      have i4 : ((g + n : Nat) : Int) < (p.length : Int) := by have := HGP.out; omega
      clear hve hcell hB1 hB2 hB3 hgn HVR HVE
      go_wp2
      refine ⟨?_, by first | (simp [intOf]; done) | (simp [intOf]; omega)⟩
      first
        | exact ⟨n + 1, by go_num, hlt, HB2, HV2⟩
        | ((repeat apply Exists.intro); exact ⟨⟨n + 1, by go_num, hlt, HB2, HV2⟩, rfl⟩)
    · obtain rfl : n = gx := by omega
      have gl : decide ((n : Int) < (n : Int)) = false := decide_eq_false (by omega)
      have gl' : decide (n < n) = false := decide_eq_false (by omega)
      obtain ⟨w7, hw7⟩ : ∃ W, (we.alloc (.cells #[.int .i64 2, .int .i64 x.k, .string x.ch, .bool x.nt, .slice xR x.rows.length xd, .int .i64 x.mi, .int .i64 x.ma, .bool x.lz, .slice (some ⟨kb, ko, none⟩) 1 kc, .int .i64 ((g : Nat) : Int), .int .i64 (((m : Nat) : Int) + 1), .int .i64 ((i : Nat) : Int), .pointer a12] 132)).drew = W := ⟨_, rfl⟩
      have HB7 : Hid (Below we.heap.size we w7) := hide (by rw [← hw7]; exact bl_drew (bl_alloc (bl_refl _) _))
      have HN7 : Hid (∀ j u, ([.int .i64 2, .int .i64 x.k, .string x.ch, .bool x.nt, .slice xR x.rows.length xd, .int .i64 x.mi, .int .i64 x.ma, .bool x.lz, .slice (some ⟨kb, ko, none⟩) 1 kc, .int .i64 ((g : Nat) : Int), .int .i64 (((m : Nat) : Int) + 1), .int .i64 ((i : Nat) : Int), .pointer a12] : List Value)[j]? = some u → w7.cell? ⟨we.heap.size, j, none⟩ = some u) := hide (by rw [← hw7]; exact fun j u hu => dr_blk (cells_new we [.int .i64 2, .int .i64 x.k, .string x.ch, .bool x.nt, .slice xR x.rows.length xd, .int .i64 x.mi, .int .i64 x.ma, .bool x.lz, .slice (some ⟨kb, ko, none⟩) 1 kc, .int .i64 ((g : Nat) : Int), .int .i64 (((m : Nat) : Int) + 1), .int .i64 ((i : Nat) : Int), .pointer a12] _ j u hu))
      have HQ7 := hide (fun (W : World) (hg : w7.grownBy W (some Z.rb)) => (show W.cell? ⟨b, 8, none⟩ = some (.slice (some ⟨kb, ko, none⟩) 1 kc) ∧ W.cell? ⟨b, 9, none⟩ = some (.int .i64 ((g : Nat) : Int)) ∧ W.cell? ⟨b, 12, none⟩ = some (.pointer a12) ∧ W.cell? ⟨kb, ko, none⟩ = some (.int .i64 y.k) ∧ W.cell? ⟨kb, ko + 1, none⟩ = some (.string y.ch) ∧ W.cell? ⟨kb, ko + 2, none⟩ = some (.bool y.nt) ∧ W.cell? ⟨kb, ko + 3, none⟩ = some (.slice yR y.rows.length yd) ∧ W.cell? ⟨kb, ko + 4, none⟩ = some (.int .i64 y.mi) ∧ W.cell? ⟨kb, ko + 5, none⟩ = some (.int .i64 y.ma) ∧ W.cell? ⟨kb, ko + 6, none⟩ = some (.bool y.lz) ∧ W.cell? ⟨kb, ko + 7, none⟩ = some (.slice yK y.kids.length ye) from by
        obtain ⟨⟨x1, x2, x3, x4, x5, x6, x7, x8, x9, x10, x12⟩, q0, q1, q2, q3, q4, q5, q6, q7⟩ := HQ.out W (gr_trans (gr_bl (bl_trans HBE.out HB7.out) _) hg)
        exact ⟨x8, x9, x12, q0, q1, q2, q3, q4, q5, q6, q7⟩))
      have HG7 := hide (fun (W : World) (hbl : Below w7.heap.size w7 W) => HG.out W (bl_trans HBE.out (bl_trans HB7.out hbl)))
      have HPA := hide (show ∀ W, Below we.heap.size we W → PaAt Z.rb W (.slice B4 p.length c4) (clearP p g n) from fun W hb => ⟨by rw [clearP_len']; exact own_base (own_below HVE.out hb) (Nat.zero_le _), fun e => by have := (HVE.out.lt _ e).1; have := HRB.out; omega⟩)
      have HC := hide (fun (W : World) (n1 : Nat) (hbl : Below w7.heap.size w7 W) (hge : w7.heap.size ≤ n1) hcs => HC0.out we W n1 _ HBE.out (bl_trans HB7.out hbl) (fun j u hu => cell_later hbl (HN7.out j u hu)) (Nat.le_trans HB7.out.size hge) hcs (HPA.out _ (bl_trans HB7.out hbl)))
      have nb : we.heap.size ≠ b := Nat.ne_of_gt (Nat.lt_of_lt_of_le HLB.out.1 HBE.out.size)
      have nb7 : w7.heap.size ≠ b := Nat.ne_of_gt (Nat.lt_of_lt_of_le HLB.out.1 (Nat.le_trans HBE.out.size HB7.out.size))
      have nkb7 : w7.heap.size ≠ kb := Nat.ne_of_gt (Nat.lt_of_lt_of_le HLB.out.2 (Nat.le_trans HBE.out.size HB7.out.size))
      have HS7 := hide (HQ7.out w7 (gr_bl (bl_refl w7) _))
      clear HVR HVE hlt hn
      go_wp2_with fail
      go_region
      go_wp2_with fail
      clear x1 x2 x3 x4 x5 x6 x7 x8 x9 x10 x12 q0 q1 q2 q3 q4 q5 q6 q7 hw7 nb
      obtain ⟨x8, x9, x12, q0, q1, q2, q3, q4, q5, q6, q7⟩ := HS7.out
      go_region_held3 (fun W => W.cell? ⟨b, 8, none⟩ = some (.slice (some ⟨kb, ko, none⟩) 1 kc) ∧ W.cell? ⟨b, 9, none⟩ = some (.int .i64 ((g : Nat) : Int)) ∧ W.cell? ⟨b, 12, none⟩ = some (.pointer a12) ∧ W.cell? ⟨kb, ko, none⟩ = some (.int .i64 y.k) ∧ W.cell? ⟨kb, ko + 1, none⟩ = some (.string y.ch) ∧ W.cell? ⟨kb, ko + 2, none⟩ = some (.bool y.nt) ∧ W.cell? ⟨kb, ko + 3, none⟩ = some (.slice yR y.rows.length yd) ∧ W.cell? ⟨kb, ko + 4, none⟩ = some (.int .i64 y.mi) ∧ W.cell? ⟨kb, ko + 5, none⟩ = some (.int .i64 y.ma) ∧ W.cell? ⟨kb, ko + 6, none⟩ = some (.bool y.lz) ∧ W.cell? ⟨kb, ko + 7, none⟩ = some (.slice yK y.kids.length ye) ∧ True)
        (first | (refine ⟨?_, ?_, ?_, ?_, ?_, ?_, ?_, ?_, ?_, ?_, ?_, trivial⟩ <;> (repeat (first | with_reducible assumption | with_reducible refine dr_blk ?_ | with_reducible refine al_blk ?_)); done) | go_keep)
        (first | (go_at_call 78; refine (HC.out _ _ (by repeat (first | exact bl_refl _ | refine bl_drew ?_ | refine bl_alloc ?_ _)) (by simp) (by intro j u hu; repeat (first | exact cells_new _ _ _ j u hu | refine dr_blk ?_ | refine al_blk ?_))).mono ?_; rintro e w6 hp6; have HP6 := hide (hp6.from (HG7.out _ (by repeat (first | exact bl_refl _ | refine bl_drew ?_ | refine bl_alloc ?_ _)))); obtain ⟨a4, A4, n4, c4', ok4, rfl⟩ := hp6.form; obtain ⟨z0, z1, z2, z3, z4, z5, z6, z7, z8, z9, z10⟩ := HQ7.out _ (gr_trans (gr_bl (by repeat (first | exact bl_refl _ | refine bl_drew ?_ | refine bl_alloc ?_ _)) _) hp6.1); clear hp6) | fail)
      go_wp2_with fail
      refine bodyPost_ret (v := .tuple #[.int .i64 a4, .slice A4 n4 c4', .bool ok4]) ?_ rfl HP6.out
      rw [results_tmp3 rfl]
      go_simp
end
end Go.Proofs.YtcnliipkfccohaaGreat
end
section
namespace Go.Proofs.YtcnliipkfccohaaGreat
open Go.ChangeShapes Go.WideShapes Go.ChangeAt Go.RowKit
open SetM SpanM
attribute [local go_sem ↓] Go.wp_at_zero Go.wp_at_succ
set_option maxRecDepth 100000
set_option linter.unusedVariables false
attribute [local go_sem] later_cell later_frozen
theorem holds_ok {np : Nat} : ∀ {l : List Rt} {g : Nat}, LOk np l g → ∀ i, ∀ t ∈ holdsK l g, KtOk np i t
  | [], _, _, _, t, ht => by cases ht
  | x :: l, g, h, i, t, ht => by
    have h1 := h.ok
    have h2 := h.gr
    have h3 := h.pt
    have h4 := h.sz
    simp only [okL, gL, pL, sL, Bool.and_eq_true] at h1 h2 h3 h4
    rcases List.mem_cons.1 ht with rfl | ht
    · exact ⟨h1.1, by omega, by omega, by omega⟩
    · exact holds_ok (l := l) (g := g + gM x) ⟨h1.2, by omega, by omega, by omega⟩ i t ht
theorem holds_drop (l : List Rt) (g k : Nat) (h : k < l.length) : holdsK (l.drop k) g = .hold l[k] g :: holdsK (l.drop (k + 1)) (g + gM l[k]) := by
  rw [List.drop_eq_getElem_cons h]; rfl
theorem wr_sub {a b c : Nat} (h : a = c + b) (ha : a ≤ 100000) : IntKind.i64.wrap (((a : Nat) : Int) - ((b : Nat) : Int)) = ((c : Nat) : Int) := by rw [IntKind.wrap_i64]; omega
theorem wr_dec {a : Nat} (ha : a ≤ 100000) : IntKind.i64.wrap (((a : Nat) : Int) - 1) = ((a : Nat) : Int) - 1 := by rw [IntKind.wrap_i64]; omega
theorem wr_add {a b : Nat} (ha : a + b ≤ 100000) : IntKind.i64.wrap (((a : Nat) : Int) + ((b : Nat) : Int)) = ((a + b : Nat) : Int) := by rw [IntKind.wrap_i64]; omega
section
variable {Z : Rn}
set_option maxHeartbeats 16000000 in
theorem on_seq (hZ : Z.Ok) (f : Nat) (x : Rt) (g : Nat) (ks : List Kt) (i : Nat) (p : List (Int × Int)) (r : Ro) (hk0 : x.k = 0) (ho : OnC Z f (holdsK x.kids g ++ ks) i p r) : OnC Z f (.hold x g :: ks) i p r := by
  intro w kv v hR hN hP hi hp hk hf
  cases hN with
  | hold q _ _ _ rv m fr hq hx hc hT =>
    obtain ⟨A, c, rfl⟩ := own_slice hP.1
    obtain ⟨a12, rfl⟩ := hT.ptr
    obtain ⟨xR, xd, hxr⟩ := rwat_len hx.rows
    obtain ⟨xK, xe, hxk⟩ := ksat_len hx.ks
    have hxo : XOk p.length x g := hk _ List.mem_cons_self
    have hxc : x.cs = [.int .i64 x.k, .string x.ch, .bool x.nt, .slice xR x.rows.length xd, .int .i64 x.mi, .int .i64 x.ma, .bool x.lz, .slice xK x.kids.length xe] := by unfold Rt.cs; rw [hxr, hxk]
    have hxv : x.v = .agg #[.int .i64 x.k, .string x.ch, .bool x.nt, .slice xR x.rows.length xd, .int .i64 x.mi, .int .i64 x.ma, .bool x.lz, .slice xK x.kids.length xe] := by unfold Rt.v Rt.cs; rw [hxr, hxk]
    rw [hxc] at hc
    have x0 : w.cell? ⟨q, 0, none⟩ = some (.int .i64 0) := hc 0 _ rfl
    have x1 : w.cell? ⟨q, 1, none⟩ = some (.int .i64 x.k) := hc 1 _ rfl
    have x2 : w.cell? ⟨q, 2, none⟩ = some (.string x.ch) := hc 2 _ rfl
    have x3 : w.cell? ⟨q, 3, none⟩ = some (.bool x.nt) := hc 3 _ rfl
    have x4 : w.cell? ⟨q, 4, none⟩ = some (.slice xR x.rows.length xd) := hc 4 _ rfl
    have x5 : w.cell? ⟨q, 5, none⟩ = some (.int .i64 x.mi) := hc 5 _ rfl
    have x6 : w.cell? ⟨q, 6, none⟩ = some (.int .i64 x.ma) := hc 6 _ rfl
    have x7 : w.cell? ⟨q, 7, none⟩ = some (.bool x.lz) := hc 7 _ rfl
    have x8 : w.cell? ⟨q, 8, none⟩ = some (.slice xK x.kids.length xe) := hc 8 _ rfl
    have x9 : w.cell? ⟨q, 9, none⟩ = some (.int .i64 ((g : Nat) : Int)) := hc 9 _ rfl
    have x12 : w.cell? ⟨q, 12, none⟩ = some (.pointer a12) := hc 12 _ rfl
    have hlo := hxo.kids (by omega)
    have hgr := hxo.gr
    have hgm : gM x = gL x.kids := by rw [gM_eq, if_neg (by omega), Nat.zero_add]
    have hpt := hxo.pt
    have hln : x.kids.length ≤ 512 := by have := len_pL x.kids; have := pM_eq x; omega
    have e0 : (x.k == 0) = true := by rw [hk0]; rfl
    have HQ := hide (fun (W : World) (hb : Below w.heap.size w W) => (show W.cell? ⟨q, 0, none⟩ = some (.int .i64 0) ∧ W.cell? ⟨q, 1, none⟩ = some (.int .i64 x.k) ∧ W.cell? ⟨q, 2, none⟩ = some (.string x.ch) ∧ W.cell? ⟨q, 3, none⟩ = some (.bool x.nt) ∧ W.cell? ⟨q, 4, none⟩ = some (.slice xR x.rows.length xd) ∧ W.cell? ⟨q, 5, none⟩ = some (.int .i64 x.mi) ∧ W.cell? ⟨q, 6, none⟩ = some (.int .i64 x.ma) ∧ W.cell? ⟨q, 7, none⟩ = some (.bool x.lz) ∧ W.cell? ⟨q, 8, none⟩ = some (.slice xK x.kids.length xe) ∧ W.cell? ⟨q, 9, none⟩ = some (.int .i64 ((g : Nat) : Int)) ∧ W.cell? ⟨q, 12, none⟩ = some (.pointer a12) from ⟨cell_later hb x0, cell_later hb x1, cell_later hb x2, cell_later hb x3, cell_later hb x4, cell_later hb x5, cell_later hb x6, cell_later hb x7, cell_later hb x8, cell_later hb x9, cell_later hb x12⟩))
    have HGX := hide (fun (u : Later w) => rgroups_any hx (by omega) u.now (bl_trans hR.bW u.below))
    rw [hxv] at HGX
    obtain ⟨kids, hkids⟩ : ∃ l, x.kids = l := ⟨_, rfl⟩
    have HKA := hide (fun (W : World) (hb : Below w.heap.size w W) => (show KsAt W (.slice xK kids.length xe) kids by rw [← hkids, ← hxk]; exact ksat_below hx.ks (bl_trans hR.bW hb)))
    have HKID := hide (fun n (hn : n < kids.length) => (show RxAt Z.W0 kids[n] ∧ pM kids[n] ≤ 512 by
      subst hkids
      exact ⟨hx.kid n hn, by have := pL_kid x.kids n hn; have := pM_eq x; omega⟩))
    have HGK := hide (fun n (hn : n < kids.length) (W : World) (hb : Below w.heap.size w W) => rgroups_any (HKID.out n hn).1 (by have := (HKID.out n hn).2; omega) W (bl_trans hR.bW hb))
    rw [hkids] at ho hlo hgm hln HGX HQ x8
    have HC := hide (fun (W : World) (rp : Option Addr) (hb : Below w.heap.size w W) (hn : NxAt Z.W0 Z.rb W (.pointer rp) (holdsK kids g ++ ks)) => ho W _ _ (hR.bl hb) hn (hP.bl hb) hi hp (fun t ht => by
      rcases List.mem_append.1 ht with ht | ht
      · exact holds_ok hlo i t ht
      · exact hk t (List.mem_cons_of_mem _ ht)) hf)
    have HG := hide (fun (W : World) (hb : Below w.heap.size w W) => gr_bl hb (some Z.rb))
    have HT0 := hide hT
    have HGG := hide (show g + gL kids ≤ 512 by omega)
    have HRB := hide (show Z.rb < w.heap.size from hR.cm.s)
    have HLN := hide hln
    rw [hgm] at HGX
    have ea : IntKind.i64.wrap (((g : Nat) : Int) + ((gL kids : Nat) : Int)) = ((g + gL kids : Nat) : Int) := wr_add (by have := HGG.out; omega)
    have el : IntKind.i64.wrap (((kids.length : Nat) : Int) - 1) = ((kids.length : Nat) : Int) - 1 := wr_dec (by omega)
    have ltq : q < w.heap.size := World.block_lt_of_cell? _ _ x0
    obtain ⟨gk, hgk⟩ : ∃ n, gL kids = n := ⟨_, rfl⟩
    rw [hgk] at ea HGX HGG
    have HGE := hide hgk
    clear hR hP hk hf hp hi hc hT ho hq hx hxr hxk hxc hxv hxo hlo hgr hgm hpt hln hkids hk0 hgk
    go_enter Tryz.func78, Tryz.ntmps78
    go_wp2_with fail
    refine wp_region_later (by kernel_rfl) (by kernel_rfl) ?_
    repeat (go_big_quiet_step (first | (go_at_call 77; exact later_call (HGX.out _)) | exact rfl))
    refine wpQuiet_nil ?_
    rintro w9 ⟨⟨_, hb9⟩, rfl⟩
    have HB9 := hide hb9
    have HN9 := hide (show NxAt Z.W0 Z.rb w9 (.pointer a12) (holdsK (kids.drop kids.length) (g + gL (kids.take kids.length)) ++ ks) by rw [List.drop_length]; exact HT0.out.bl hb9)
    have HGS := hide (show g + gk = g + gL (kids.take kids.length) by rw [List.take_length, HGE.out])
    clear x0 x1 x2 x3 x4 x5 x6 x7 x8 x9 x12 hb9 ltq
    obtain ⟨x0, x1, x2, x3, x4, x5, x6, x7, x8, x9, x12⟩ := HQ.out _ HB9.out
    go_wp2
    go_loopw [12, 13, 14] (fun rp gg j wr => ∃ (n : Nat) (jn : Int) (a : Option Addr) (G1 : Nat), rp = .pointer a ∧ gg = .int .i64 ((G1 : Nat) : Int) ∧ j = .int .i64 jn ∧ jn + 1 = (n : Int) ∧ n ≤ kids.length ∧ Hid (G1 = g + gL (kids.take n)) ∧ Hid (Below w.heap.size w wr) ∧ Hid (NxAt Z.W0 Z.rb wr (.pointer a) (holdsK (kids.drop n) (g + gL (kids.take n)) ++ ks))) (fun _ _ j _ => (intOf j + 1).toNat)
    case atStart => exact ⟨kids.length, _, a12, g + gk, rfl, rfl, rfl, by omega, Nat.le_refl _, HGS, HB9, HN9⟩
    case round =>
      obtain ⟨n, jn, a, G1, rfl, rfl, rfl, hjn, hn, HG1, HBR, HNR⟩ := hrel
      clear x0 x1 x2 x3 x4 x5 x6 x7 x8 x9 x12 ea el
      obtain ⟨x0, x1, x2, x3, x4, x5, x6, x7, x8, x9, x12⟩ := HQ.out _ HBR.out
      cases n with
      | zero =>
        obtain rfl : jn = -1 := by omega
        go_wp2_with fail
        refine (HC.out _ _ HBR.out (by have := HNR.out; simpa [gL] using this)).mono ?_
        rintro e w6 hp6
        have HP6 := hide (hp6.from (HG.out _ HBR.out))
        obtain ⟨a4, A4, n4, c4', ok4, rfl⟩ := hp6.form
        clear hp6
        go_wp2_with fail
        refine bodyPost_ret (v := .tuple #[.int .i64 a4, .slice A4 n4 c4', .bool ok4]) ?_ rfl HP6.out
        rw [results_tmp3 rfl]
        go_simp
      | succ k =>
        obtain rfl : jn = (k : Int) := by omega
        have hlt : k < kids.length := hn
        obtain ⟨kb, ko, kc, hv1, hc1, hm1, hlb1, hcell⟩ := ksat_8 (HKA.out _ HBR.out) (by omega)
        injection hv1 with hv1 _ hv1c
        subst hv1 hv1c
        unfold maxLen at hm1
        obtain ⟨q0, q1, q2, q3, q4, q5, q6, q7⟩ := hcell k hlt
        have HCK := HGK.out k hlt
        have hry := (HKID.out k hlt).1
        have hsn := gL_snoc kids k hlt
        have hdr := holds_drop kids (g + gL (kids.take k)) k hlt
        obtain ⟨y, hy⟩ : ∃ d, kids[k] = d := ⟨_, rfl⟩
        rw [hy] at q0 q1 q2 q3 q4 q5 q6 q7 HCK hry hsn hdr
        obtain ⟨yR, yd, hyr⟩ := rwat_len hry.rows
        obtain ⟨yK, ye, hyk⟩ := ksat_len hry.ks
        have hyv : y.v = .agg #[.int .i64 y.k, .string y.ch, .bool y.nt, .slice yR y.rows.length yd, .int .i64 y.mi, .int .i64 y.ma, .bool y.lz, .slice yK y.kids.length ye] := by unfold Rt.v Rt.cs; rw [hyr, hyk]
        have hyc : y.cs = [.int .i64 y.k, .string y.ch, .bool y.nt, .slice yR y.rows.length yd, .int .i64 y.mi, .int .i64 y.ma, .bool y.lz, .slice yK y.kids.length ye] := by unfold Rt.cs; rw [hyr, hyk]
        rw [hyr] at q3
        rw [hyk] at q7
        obtain ⟨gy, hgy⟩ : ∃ n, gM y = n := ⟨_, rfl⟩
        rw [hyv, hgy] at HCK
        rw [hgy] at hsn hdr
        obtain ⟨G0, hG0⟩ : ∃ n, g + gL (kids.take k) = n := ⟨_, rfl⟩
        rw [hG0] at hdr
        have hG1 : G1 = G0 + gy := by have := HG1.out; omega
        have hG5 : G1 ≤ 100000 := by have h1 := HG1.out; have h2 := HGG.out; have h3 := HGE.out; have h4 : gL kids = gL (kids.take (k + 1)) + gL (kids.drop (k + 1)) := by rw [← gL_app, List.take_append_drop]
                                     omega
        have HHK := hide HCK
        have HRY := hide hry
        have HYC := hide hyc
        have HD := hide hdr
        have HG0 := hide hG0
        have HNK := hide (show holdsK (kids.drop (k + 1)) (g + gL (kids.take (k + 1))) = holdsK (kids.drop (k + 1)) (G0 + gy) by rw [← hG0, hsn, Nat.add_assoc])
        have i1 : (0 : Int) ≤ (k : Int) := by omega
        have i2 : (k : Int) < (kids.length : Int) := by omega
        have es : IntKind.i64.wrap (((G1 : Nat) : Int) - ((gy : Nat) : Int)) = ((G0 : Nat) : Int) := wr_sub hG1 hG5
        have ed : IntKind.i64.wrap ((k : Int) - 1) = (k : Int) - 1 := wr_dec (by have := HLN.out; omega)
        clear hcell hy hry hsn hdr hyr hyk hyv hyc hgy hG0 hG1 hG5 HCK
        go_wp2_with fail
        refine (HHK.out _ HBR.out).mono ?_
        rintro e we ⟨rfl, hbe⟩
        have HBE := hide (bl_trans HBR.out hbe)
        have HNE := hide (HNR.out.bl hbe)
        clear x0 x1 x2 x3 x4 x5 x6 x7 x8 x9 x12
        obtain ⟨x0, x1, x2, x3, x4, x5, x6, x7, x8, x9, x12⟩ := HQ.out _ HBE.out
        replace q0 := cell_later hbe q0
        replace q1 := cell_later hbe q1
        replace q2 := cell_later hbe q2
        replace q3 := cell_later hbe q3
        replace q4 := cell_later hbe q4
        replace q5 := cell_later hbe q5
        replace q6 := cell_later hbe q6
        replace q7 := cell_later hbe q7
        have HBA := hide (bl_alloc HBE.out (.cells #[.int .i64 0, .int .i64 y.k, .string y.ch, .bool y.nt, .slice yR y.rows.length yd, .int .i64 y.mi, .int .i64 y.ma, .bool y.lz, .slice yK y.kids.length ye, .int .i64 ((G0 : Nat) : Int), .int .i64 0, .int .i64 0, .pointer a] 132))
        have HNA := hide (show NxAt Z.W0 Z.rb (we.alloc (.cells #[.int .i64 0, .int .i64 y.k, .string y.ch, .bool y.nt, .slice yR y.rows.length yd, .int .i64 y.mi, .int .i64 y.ma, .bool y.lz, .slice yK y.kids.length ye, .int .i64 ((G0 : Nat) : Int), .int .i64 0, .int .i64 0, .pointer a] 132)) (.pointer (some ⟨we.heap.size, 0, none⟩)) (holdsK (kids.drop k) (g + gL (kids.take k)) ++ ks) by
          rw [HG0.out, HD.out]
          exact .hold we.heap.size y G0 _ _ 0 0 (by have := HRB.out; have := HBE.out.size; omega) HRY.out (by rw [HYC.out]; exact cells_new we [.int .i64 0, .int .i64 y.k, .string y.ch, .bool y.nt, .slice yR y.rows.length yd, .int .i64 y.mi, .int .i64 y.ma, .bool y.lz, .slice yK y.kids.length ye, .int .i64 ((G0 : Nat) : Int), .int .i64 0, .int .i64 0, .pointer a] _) (by have := HNE.out; rw [HNK.out] at this; exact this.bl (bl_alloc (bl_refl _) _)))
        clear hbe HNR HNE HBR
        go_wp2
        refine ⟨?_, by first | (simp [intOf]; done) | (simp [intOf]; omega)⟩
        first
          | exact ⟨k, (k : Int) - 1, _, G0, rfl, rfl, rfl, by omega, by omega, hide HG0.out.symm, HBA, HNA⟩
          | ((repeat apply Exists.intro); exact ⟨⟨k, (k : Int) - 1, _, G0, rfl, rfl, rfl, by omega, by omega, hide HG0.out.symm, HBA, HNA⟩, rfl⟩)
end
end Go.Proofs.YtcnliipkfccohaaGreat
end
section
namespace Go.Proofs.YtcnliipkfccohaaGreat
open Go.ChangeShapes Go.WideShapes Go.ChangeAt Go.RowKit
open SetM SpanM
attribute [local go_sem ↓] Go.wp_at_zero Go.wp_at_succ
set_option maxRecDepth 100000
set_option linter.unusedVariables false
attribute [local go_sem] later_cell later_frozen
inductive AltC (Z : Rn) : Nat → List Rt → Nat → List Kt → Nat → List (Int × Int) → Ro → Prop
  | nil (f g ks i p) : AltC Z f [] g ks i p (.fail f)
  | done (f x l g ks i p r) (h : OnC Z f (.hold x g :: ks) i p r) (hr : ∀ f', r ≠ .fail f') : AltC Z f (x :: l) g ks i p r
  | next (f f' x l g ks i p r) (h : OnC Z f (.hold x g :: ks) i p (.fail f')) (hf : f' ≤ f) (h2 : AltC Z f' l (g + gM x) ks i p r) : AltC Z f (x :: l) g ks i p r
theorem AltC.cut {Z : Rn} {f g i : Nat} {x : Rt} {l : List Rt} {ks : List Kt} {p : List (Int × Int)} {r : Ro} (h : AltC Z f (x :: l) g ks i p r) : (OnC Z f (.hold x g :: ks) i p r ∧ ∀ f', r ≠ .fail f') ∨ ∃ f', OnC Z f (.hold x g :: ks) i p (.fail f') ∧ f' ≤ f ∧ AltC Z f' l (g + gM x) ks i p r := by
  cases h with
  | done _ _ _ _ _ _ _ _ h hr => exact .inl ⟨h, hr⟩
  | next _ f' _ _ _ _ _ _ _ h hf h2 => exact .inr ⟨f', h, hf, h2⟩
theorem AltC.end {Z : Rn} {f g i : Nat} {ks : List Kt} {p : List (Int × Int)} {r : Ro} (h : AltC Z f [] g ks i p r) : r = .fail f := by
  cases h; rfl
theorem lok_kid {np : Nat} : ∀ {l : List Rt} {g : Nat}, LOk np l g → ∀ n (h : n < l.length), XOk np l[n] (g + gL (l.take n))
  | [], _, _, n, hn => by cases hn
  | x :: l, g, h, n, hn => by
    have h1 := h.ok
    have h2 := h.gr
    have h3 := h.pt
    have h4 := h.sz
    simp only [okL, gL, pL, sL, Bool.and_eq_true] at h1 h2 h3 h4
    cases n with
    | zero =>
      show XOk np x (g + 0)
      exact ⟨h1.1, by omega, by omega, by omega⟩
    | succ n =>
      have := lok_kid (np := np) (l := l) (g := g + gM x) ⟨h1.2, by omega, by omega, by omega⟩ n (by simpa using hn)
      simpa [gL, Nat.add_assoc] using this
section
variable {Z : Rn}
set_option maxHeartbeats 16000000 in
theorem on_alt (hZ : Z.Ok) (f : Nat) (x : Rt) (g : Nat) (ks : List Kt) (i : Nat) (p : List (Int × Int)) (r : Ro) (hk0 : x.k = 1) (ho : AltC Z f x.kids g ks i p r) : OnC Z f (.hold x g :: ks) i p r := by
  intro w kv v hR hN hP hi hp hk hf
  cases hN with
  | hold q _ _ _ rv m fr hq hx hc hT =>
    obtain ⟨A, c, rfl⟩ := own_slice hP.1
    obtain ⟨a12, rfl⟩ := hT.ptr
    obtain ⟨xR, xd, hxr⟩ := rwat_len hx.rows
    have hxo : XOk p.length x g := hk _ List.mem_cons_self
    have h2k := hxo.alt hk0
    obtain ⟨kb, ko, kc, hxk, hc1, hm1, hkl, hcell⟩ := ksat_8 (ksat_below hx.ks hR.bW) (by omega)
    have hkl0 : kb < Z.W0.heap.size := by
      obtain ⟨kb', ko', kc', hkv', _, _, hkl', _⟩ := ksat_8 hx.ks (by omega)
      rw [hxk] at hkv'; injection hkv' with e; injection e with e; injection e with e; omega
    have hrb0 := hR.hrb
    have nq : Z.rb ≠ q := fun e => hq e.symm
    have nk : Z.rb ≠ kb := by omega
    have x0 : w.cell? ⟨q, 0, none⟩ = some (.int .i64 0) := hc 0 _ rfl
    have x1 : w.cell? ⟨q, 1, none⟩ = some (.int .i64 x.k) := hc 1 _ rfl
    have x8 : w.cell? ⟨q, 8, none⟩ = some (.slice (some ⟨kb, ko, none⟩) x.kids.length kc) := by rw [← hxk]; exact hc 8 _ rfl
    have x9 : w.cell? ⟨q, 9, none⟩ = some (.int .i64 ((g : Nat) : Int)) := hc 9 _ rfl
    have x12 : w.cell? ⟨q, 12, none⟩ = some (.pointer a12) := hc 12 _ rfl
    have hlo := hxo.kids (by omega)
    have hgr := hxo.gr
    have hgm : gM x = gL x.kids := by rw [gM_eq, if_neg (by omega), Nat.zero_add]
    have hpt := hxo.pt
    have hln : x.kids.length ≤ 512 := by have := len_pL x.kids; have := pM_eq x; omega
    have e0 : (x.k == 0) = false := by rw [hk0]; rfl
    have e1 : (x.k == 1) = true := by rw [hk0]; rfl
    obtain ⟨kids, hkids⟩ : ∃ l, x.kids = l := ⟨_, rfl⟩
    have HKID := hide (fun n (hn : n < kids.length) => (show RxAt Z.W0 kids[n] ∧ pM kids[n] ≤ 512 by
      subst hkids
      exact ⟨hx.kid n hn, by have := pL_kid x.kids n hn; have := pM_eq x; omega⟩))
    rw [hkids] at ho hlo hgm hln x8 hcell
    have HQ := hide (fun (W : World) (hg : w.grownBy W (some Z.rb)) => (show W.cell? ⟨q, 8, none⟩ = some (.slice (some ⟨kb, ko, none⟩) kids.length kc) ∧ W.cell? ⟨q, 12, none⟩ = some (.pointer a12) ∧ ∀ n (hn : n < kids.length), W.cell? ⟨kb, ko + n * 8, none⟩ = some (.int .i64 kids[n].k) ∧ W.cell? ⟨kb, ko + n * 8 + 1, none⟩ = some (.string kids[n].ch) ∧ W.cell? ⟨kb, ko + n * 8 + 2, none⟩ = some (.bool kids[n].nt) ∧ W.cell? ⟨kb, ko + n * 8 + 3, none⟩ = some (kids[n].rv) ∧ W.cell? ⟨kb, ko + n * 8 + 4, none⟩ = some (.int .i64 kids[n].mi) ∧ W.cell? ⟨kb, ko + n * 8 + 5, none⟩ = some (.int .i64 kids[n].ma) ∧ W.cell? ⟨kb, ko + n * 8 + 6, none⟩ = some (.bool kids[n].lz) ∧ W.cell? ⟨kb, ko + n * 8 + 7, none⟩ = some (kids[n].kv) from ⟨cell_gr hg (fun e => nq (by injection e)) x8, cell_gr hg (fun e => nq (by injection e)) x12, fun n hn => by
      obtain ⟨q0, q1, q2, q3, q4, q5, q6, q7⟩ := hcell n hn
      exact ⟨cell_gr hg (fun e => nk (by injection e)) q0, cell_gr hg (fun e => nk (by injection e)) q1, cell_gr hg (fun e => nk (by injection e)) q2, cell_gr hg (fun e => nk (by injection e)) q3, cell_gr hg (fun e => nk (by injection e)) q4, cell_gr hg (fun e => nk (by injection e)) q5, cell_gr hg (fun e => nk (by injection e)) q6, cell_gr hg (fun e => nk (by injection e)) q7⟩⟩))
    have HGK := hide (fun n (hn : n < kids.length) (W W2 : World) (f2 : Nat) (hR2 : RnI Z W f2 false) (hb : Below W.heap.size W W2) => rgroups_any (HKID.out n hn).1 (by have := (HKID.out n hn).2; omega) W2 (bl_trans hR2.bW hb))
    have HC := hide (fun (n : Nat) (hn : n < kids.length) (we W : World) (n1 f2 : Nat) (r2 : Ro) (ho2 : OnC Z f2 (.hold kids[n] (g + gL (kids.take n)) :: ks) i p r2) (hg2 : w.grownBy we (some Z.rb)) (hR2 : RnI Z we f2 false) (hf2 : f2 ≤ 20000) (hbl : Below we.heap.size we W) (hge : we.heap.size ≤ n1) (hcs : ∀ j u, ([.int .i64 0] ++ kids[n].cs ++ [.int .i64 ((g + gL (kids.take n) : Nat) : Int), .int .i64 0, .int .i64 0, .pointer a12] : List Value)[j]? = some u → W.cell? ⟨n1, j, none⟩ = some u) => ho2 W _ _ (hR2.bl hbl) (.hold n1 kids[n] _ ks _ 0 0 (by have := hR2.cm.s; omega) (HKID.out n hn).1 hcs ((hT.gr hg2).bl hbl)) ((hP.gr hg2).bl hbl) hi hp (fun t ht => by
      rcases List.mem_cons.1 ht with rfl | ht
      · exact lok_kid hlo n hn
      · exact hk t (List.mem_cons_of_mem _ ht)) hf2)
    have HGG := hide (show g + gL kids ≤ 512 by omega)
    have HLN := hide hln
    have HAL := hide (show AltC Z f (kids.drop 0) g ks i p r from ho)
    have HR0 := hide hR
    have HF0 := hide hf
    have HSZ := hide (show q < w.heap.size ∧ kb < w.heap.size from ⟨World.block_lt_of_cell? _ _ x0, hkl⟩)
    clear hR hP hk hf hp hi hc hT ho hq hx hxr hxk hxo hlo hgr hgm hpt hln hkids hk0 hc1 hm1 hkl hcell hkl0 hrb0 nq nk h2k
    go_enter Tryz.func78, Tryz.ntmps78
    go_wp2_with fail
    go_loopw [15, 16] (fun gg j wr => ∃ (n f2 G1 : Nat), j = .int .i64 n ∧ gg = .int .i64 ((G1 : Nat) : Int) ∧ n ≤ kids.length ∧ Hid (AltC Z f2 (kids.drop n) G1 ks i p r) ∧ Hid (w.grownBy wr (some Z.rb)) ∧ Hid (RnI Z wr f2 false) ∧ Hid (G1 = g + gL (kids.take n)) ∧ Hid (f2 ≤ 20000)) (fun _ j _ => kids.length - (intOf j).toNat)
    case atStart => exact ⟨0, f, g, rfl, rfl, Nat.zero_le _, HAL, hide (gr_bl (bl_refl w) _), HR0, hide (by simp [gL]), HF0⟩
    case round =>
      obtain ⟨n, f2, G1, rfl, rfl, hn, HAL1, HGR, HRR, HG1, HFF⟩ := hrel
      clear x0 x1 x8 x9 x12
      obtain ⟨x8, x12, hcl⟩ := HQ.out _ HGR.out
      by_cases hlt : n < kids.length
      · obtain ⟨q0, q1, q2, q3, q4, q5, q6, q7⟩ := hcl n hlt
        have gl : decide ((n : Int) < (kids.length : Int)) = true := decide_eq_true (by omega)
        have gl' : decide (n < kids.length) = true := decide_eq_true hlt
        have HCN := HC.out n hlt
        have HCK := HGK.out n hlt
        have hry := (HKID.out n hlt).1
        have hsn := gL_snoc kids n hlt
        have hal := HAL1.out
        rw [List.drop_eq_getElem_cons hlt] at hal
        have HQN := hide (fun (W : World) (hg : w.grownBy W (some Z.rb)) => (HQ.out W hg).2.2 n hlt)
        obtain ⟨y, hy⟩ : ∃ d, kids[n] = d := ⟨_, rfl⟩
        rw [hy] at q0 q1 q2 q3 q4 q5 q6 q7 HCN HCK hry hsn hal HQN
        obtain ⟨yR, yd, hyr⟩ := rwat_len hry.rows
        obtain ⟨yK, ye, hyk⟩ := ksat_len hry.ks
        have hyv : y.v = .agg #[.int .i64 y.k, .string y.ch, .bool y.nt, .slice yR y.rows.length yd, .int .i64 y.mi, .int .i64 y.ma, .bool y.lz, .slice yK y.kids.length ye] := by unfold Rt.v Rt.cs; rw [hyr, hyk]
        have hyc : y.cs = [.int .i64 y.k, .string y.ch, .bool y.nt, .slice yR y.rows.length yd, .int .i64 y.mi, .int .i64 y.ma, .bool y.lz, .slice yK y.kids.length ye] := by unfold Rt.cs; rw [hyr, hyk]
        rw [hyr] at q3 HQN
        rw [hyk] at q7 HQN
        have HQY := hide (fun (W : World) (hg : wr.grownBy W (some Z.rb)) => (show W.cell? ⟨q, 8, none⟩ = some (.slice (some ⟨kb, ko, none⟩) kids.length kc) ∧ W.cell? ⟨q, 12, none⟩ = some (.pointer a12) ∧ W.cell? ⟨kb, ko + n * 8, none⟩ = some (.int .i64 y.k) ∧ W.cell? ⟨kb, ko + n * 8 + 1, none⟩ = some (.string y.ch) ∧ W.cell? ⟨kb, ko + n * 8 + 2, none⟩ = some (.bool y.nt) ∧ W.cell? ⟨kb, ko + n * 8 + 3, none⟩ = some (.slice yR y.rows.length yd) ∧ W.cell? ⟨kb, ko + n * 8 + 4, none⟩ = some (.int .i64 y.mi) ∧ W.cell? ⟨kb, ko + n * 8 + 5, none⟩ = some (.int .i64 y.ma) ∧ W.cell? ⟨kb, ko + n * 8 + 6, none⟩ = some (.bool y.lz) ∧ W.cell? ⟨kb, ko + n * 8 + 7, none⟩ = some (.slice yK y.kids.length ye) from by
          obtain ⟨s8, s12, _⟩ := HQ.out W (gr_trans HGR.out hg)
          obtain ⟨s0, s1, s2, s3, s4, s5, s6, s7⟩ := HQN.out W (gr_trans HGR.out hg)
          exact ⟨s8, s12, s0, s1, s2, s3, s4, s5, s6, s7⟩))
        have hG1 := HG1.out
        rw [← hG1, hyc] at HCN
        obtain ⟨gy, hgy⟩ : ∃ n, gM y = n := ⟨_, rfl⟩
        rw [hyv, hgy] at HCK
        rw [hgy] at hsn
        have hG5 : G1 + gy ≤ 100000 := by have h2 := HGG.out; have h4 : gL kids = gL (kids.take (n + 1)) + gL (kids.drop (n + 1)) := by rw [← gL_app, List.take_append_drop]
                                          omega
        have HHK := hide HCK
        have HGS2 := hide (show G1 + gy = g + gL (kids.take (n + 1)) by omega)
        have i1 : (0 : Int) ≤ (n : Int) := by omega
        have i2 : (n : Int) < (kids.length : Int) := by omega
        have ea : IntKind.i64.wrap (((G1 : Nat) : Int) + ((gy : Nat) : Int)) = ((G1 + gy : Nat) : Int) := wr_add hG5
        have en : IntKind.i64.wrap ((n : Int) + 1) = (n : Int) + 1 := wr_n (by have := HLN.out; omega)
        have nb : wr.heap.size ≠ q := Nat.ne_of_gt (Nat.lt_of_lt_of_le HSZ.out.1 HGR.out.size)
        have nkb : wr.heap.size ≠ kb := Nat.ne_of_gt (Nat.lt_of_lt_of_le HSZ.out.2 HGR.out.size)
        have HGW := hide (fun (W : World) (hb : Below wr.heap.size wr W) => gr_bl hb (some Z.rb))
        have hal2 := hal.cut
        rw [hgy] at hal2
        rcases hal2 with ⟨ho2, hrf⟩ | ⟨f'', ho2, hff, hal3⟩
        · have HCY := hide (fun (W : World) (n1 : Nat) (hbl : Below wr.heap.size wr W) (hge : wr.heap.size ≤ n1) (hcs : ∀ j u, ([.int .i64 0, .int .i64 y.k, .string y.ch, .bool y.nt, .slice yR y.rows.length yd, .int .i64 y.mi, .int .i64 y.ma, .bool y.lz, .slice yK y.kids.length ye, .int .i64 ((G1 : Nat) : Int), .int .i64 0, .int .i64 0, .pointer a12] : List Value)[j]? = some u → W.cell? ⟨n1, j, none⟩ = some u) => HCN wr W n1 f2 r ho2 HGR.out HRR.out HFF.out hbl hge hcs)
          clear hcl HCN HCK hry hsn hal hy hyr hyk hyv hyc hgy hG1 hG5 ho2
          cases r with
          | fail f' => exact absurd rfl (hrf f')
          | found j p' f' =>
            clear hrf
            go_wp2_with fail
            go_region_held3 (fun W => W.cell? ⟨q, 8, none⟩ = some (.slice (some ⟨kb, ko, none⟩) kids.length kc) ∧ W.cell? ⟨q, 12, none⟩ = some (.pointer a12) ∧ W.cell? ⟨kb, ko + n * 8, none⟩ = some (.int .i64 y.k) ∧ W.cell? ⟨kb, ko + n * 8 + 1, none⟩ = some (.string y.ch) ∧ W.cell? ⟨kb, ko + n * 8 + 2, none⟩ = some (.bool y.nt) ∧ W.cell? ⟨kb, ko + n * 8 + 3, none⟩ = some (.slice yR y.rows.length yd) ∧ W.cell? ⟨kb, ko + n * 8 + 4, none⟩ = some (.int .i64 y.mi) ∧ W.cell? ⟨kb, ko + n * 8 + 5, none⟩ = some (.int .i64 y.ma) ∧ W.cell? ⟨kb, ko + n * 8 + 6, none⟩ = some (.bool y.lz) ∧ W.cell? ⟨kb, ko + n * 8 + 7, none⟩ = some (.slice yK y.kids.length ye) ∧ True)
              (first | (refine ⟨?_, ?_, ?_, ?_, ?_, ?_, ?_, ?_, ?_, ?_, trivial⟩ <;> (repeat (first | with_reducible assumption | with_reducible refine dr_blk ?_ | with_reducible refine al_blk ?_)); done) | go_keep)
              (first | (go_at_call 78; refine (HCY.out _ _ (by repeat (first | exact bl_refl _ | refine bl_drew ?_ | refine bl_alloc ?_ _)) (by simp) (by intro j u hu; repeat (first | exact cells_new _ _ _ j u hu | refine dr_blk ?_ | refine al_blk ?_))).mono ?_; rintro e w6 hp6; have HP6 := hide (hp6.from (HGW.out _ (by repeat (first | exact bl_refl _ | refine bl_drew ?_ | refine bl_alloc ?_ _)))); obtain ⟨_, v6, rfl, hR6, hP6⟩ := hp6; obtain ⟨A6, c6, rfl⟩ := own_slice hP6.1; have hp6 := True.intro; clear hR6 hP6; obtain ⟨z0, z1, z2, z3, z4, z5, z6, z7, z8, z9⟩ := HQY.out _ HP6.out.1; clear hp6) | fail)
            go_wp2_with fail
            refine bodyPost_ret (v := .tuple #[.int .i64 ((j : Nat) : Int), .slice A6 p'.length c6, .bool true]) ?_ rfl (HP6.out.from HGR.out)
            rw [results_tmp3 rfl]
            go_simp
          | dry =>
            clear hrf
            go_wp2_with fail
            go_region_held3 (fun W => W.cell? ⟨q, 8, none⟩ = some (.slice (some ⟨kb, ko, none⟩) kids.length kc) ∧ W.cell? ⟨q, 12, none⟩ = some (.pointer a12) ∧ W.cell? ⟨kb, ko + n * 8, none⟩ = some (.int .i64 y.k) ∧ W.cell? ⟨kb, ko + n * 8 + 1, none⟩ = some (.string y.ch) ∧ W.cell? ⟨kb, ko + n * 8 + 2, none⟩ = some (.bool y.nt) ∧ W.cell? ⟨kb, ko + n * 8 + 3, none⟩ = some (.slice yR y.rows.length yd) ∧ W.cell? ⟨kb, ko + n * 8 + 4, none⟩ = some (.int .i64 y.mi) ∧ W.cell? ⟨kb, ko + n * 8 + 5, none⟩ = some (.int .i64 y.ma) ∧ W.cell? ⟨kb, ko + n * 8 + 6, none⟩ = some (.bool y.lz) ∧ W.cell? ⟨kb, ko + n * 8 + 7, none⟩ = some (.slice yK y.kids.length ye) ∧ True)
              (first | (refine ⟨?_, ?_, ?_, ?_, ?_, ?_, ?_, ?_, ?_, ?_, trivial⟩ <;> (repeat (first | with_reducible assumption | with_reducible refine dr_blk ?_ | with_reducible refine al_blk ?_)); done) | go_keep)
              (first | (go_at_call 78; refine (HCY.out _ _ (by repeat (first | exact bl_refl _ | refine bl_drew ?_ | refine bl_alloc ?_ _)) (by simp) (by intro j u hu; repeat (first | exact cells_new _ _ _ j u hu | refine dr_blk ?_ | refine al_blk ?_))).mono ?_; rintro e w6 hp6; have HP6 := hide (hp6.from (HGW.out _ (by repeat (first | exact bl_refl _ | refine bl_drew ?_ | refine bl_alloc ?_ _)))); obtain ⟨_, rfl, hR6⟩ := hp6; have y4 : w6.cell? ⟨Z.rb, 4, none⟩ = some (.bool true) := hR6.cm.c 4 _ rfl; have lt6 := hR6.cm.s; have hp6 := True.intro; clear hR6; obtain ⟨z0, z1, z2, z3, z4, z5, z6, z7, z8, z9⟩ := HQY.out _ HP6.out.1; clear hp6) | fail)
            go_wp2_with fail
            refine bodyPost_ret (v := .tuple #[.int .i64 0, .slice none 0 0, .bool false]) ?_ rfl (HP6.out.from HGR.out)
            rw [results_tmp3 rfl]
            go_simp
        · have HCY := hide (fun (W : World) (n1 : Nat) (hbl : Below wr.heap.size wr W) (hge : wr.heap.size ≤ n1) (hcs : ∀ j u, ([.int .i64 0, .int .i64 y.k, .string y.ch, .bool y.nt, .slice yR y.rows.length yd, .int .i64 y.mi, .int .i64 y.ma, .bool y.lz, .slice yK y.kids.length ye, .int .i64 ((G1 : Nat) : Int), .int .i64 0, .int .i64 0, .pointer a12] : List Value)[j]? = some u → W.cell? ⟨n1, j, none⟩ = some u) => HCN wr W n1 f2 (.fail f'') ho2 HGR.out HRR.out HFF.out hbl hge hcs)
          have HAL2 := hide hal3
          have HFF2 := hide (Nat.le_trans hff HFF.out)
          clear hcl HCN HCK hry hsn hal hy hyr hyk hyv hyc hgy hG1 hG5 ho2 hal3 hff
          go_wp2_with fail
          go_region_held3 (fun W => W.cell? ⟨q, 8, none⟩ = some (.slice (some ⟨kb, ko, none⟩) kids.length kc) ∧ W.cell? ⟨q, 12, none⟩ = some (.pointer a12) ∧ W.cell? ⟨kb, ko + n * 8, none⟩ = some (.int .i64 y.k) ∧ W.cell? ⟨kb, ko + n * 8 + 1, none⟩ = some (.string y.ch) ∧ W.cell? ⟨kb, ko + n * 8 + 2, none⟩ = some (.bool y.nt) ∧ W.cell? ⟨kb, ko + n * 8 + 3, none⟩ = some (.slice yR y.rows.length yd) ∧ W.cell? ⟨kb, ko + n * 8 + 4, none⟩ = some (.int .i64 y.mi) ∧ W.cell? ⟨kb, ko + n * 8 + 5, none⟩ = some (.int .i64 y.ma) ∧ W.cell? ⟨kb, ko + n * 8 + 6, none⟩ = some (.bool y.lz) ∧ W.cell? ⟨kb, ko + n * 8 + 7, none⟩ = some (.slice yK y.kids.length ye) ∧ True)
            (first | (refine ⟨?_, ?_, ?_, ?_, ?_, ?_, ?_, ?_, ?_, ?_, trivial⟩ <;> (repeat (first | with_reducible assumption | with_reducible refine dr_blk ?_ | with_reducible refine al_blk ?_)); done) | go_keep)
            (first | (go_at_call 78; refine (HCY.out _ _ (by repeat (first | exact bl_refl _ | refine bl_drew ?_ | refine bl_alloc ?_ _)) (by simp) (by intro j u hu; repeat (first | exact cells_new _ _ _ j u hu | refine dr_blk ?_ | refine al_blk ?_))).mono ?_; rintro e w6 hp6; have HP6 := hide (hp6.from (HGW.out _ (by repeat (first | exact bl_refl _ | refine bl_drew ?_ | refine bl_alloc ?_ _)))); obtain ⟨_, rfl, hR6⟩ := hp6; have HR6 := hide hR6; have y4 : w6.cell? ⟨Z.rb, 4, none⟩ = some (.bool false) := hR6.cm.c 4 _ rfl; have lt6 := hR6.cm.s; have hp6 := True.intro; clear hR6; obtain ⟨z0, z1, z2, z3, z4, z5, z6, z7, z8, z9⟩ := HQY.out _ HP6.out.1; clear hp6) | fail)
          have HG6 := hide (gr_trans HGR.out HP6.out.1)
          go_wp2_with fail
          refine (HHK.out _ _ _ HR6.out (bl_refl _)).mono ?_
          rintro e we ⟨rfl, hbe⟩
          have HGE := hide (gr_trans HG6.out (gr_bl hbe _))
          have HRE := hide (HR6.out.bl hbe)
          clear hbe z0 z1 z2 z3 z4 z5 z6 z7 z8 z9 y4 lt6 HP6
          go_wp2
          refine ⟨?_, by first | (simp [intOf]; done) | (simp [intOf]; omega)⟩
          first
            | exact ⟨n + 1, f'', G1 + gy, by go_num, rfl, hlt, HAL2, HGE, HRE, HGS2, HFF2⟩
            | ((repeat apply Exists.intro); exact ⟨⟨n + 1, f'', G1 + gy, by go_num, rfl, hlt, HAL2, HGE, HRE, HGS2, HFF2⟩, rfl⟩)
      · obtain rfl : n = kids.length := by omega
        have gl : decide ((kids.length : Int) < (kids.length : Int)) = false := decide_eq_false (by omega)
        have gl' : decide (kids.length < kids.length) = false := decide_eq_false (by omega)
        have hal := HAL1.out
        rw [List.drop_length] at hal
        have hre := hal.end
        have HFIN := hide (show NrPost Z r w (.returned (.tuple #[.int .i64 0, .slice none 0 0, .bool false])) wr by rw [hre]; exact ⟨HGR.out, rfl, HRR.out⟩)
        clear hal hre hcl
        go_wp2_with fail
        refine bodyPost_ret (v := .tuple #[.int .i64 0, .slice none 0 0, .bool false]) ?_ rfl HFIN.out
        rw [results_tmp3 rfl]
        go_simp
end
end Go.Proofs.YtcnliipkfccohaaGreat
end
section
namespace Go.Proofs.YtcnliipkfccohaaGreat
open SetM SpanM
set_option linter.unusedVariables false
section
variable {Z : Rn}
mutual
  theorem on_spec (hZ : Z.Ok) : ∀ {f : Nat} {ks : List Kt} {i : Nat} {p : List (Int × Int)} {r : Ro}, On Z.of (tkR Z.cs Z.fold) f ks i p r → OnC Z f ks i p r
    | _, _, _, _, _, .nil f i p => on_nil f i p
    | _, _, _, _, _, .ended f g b ks i p r h => on_ended hZ f g b ks i p r (on_spec hZ h)
    | _, _, _, _, _, .stuck f x g many b ks i p h1 hi => on_stuck f x g many b ks i p h1 hi
    | _, _, _, _, _, .again f x g many b ks i p r h1 h => on_again f x g many b ks i p r h1 (onr_spec hZ h)
    | _, _, _, _, _, .seq f x g ks i p r hk h => on_seq hZ f x g ks i p r hk (on_spec hZ h)
    | _, _, _, _, _, .alt f x g ks i p r hk h => on_alt hZ f x g ks i p r hk (ona_spec hZ h)
    | _, _, _, _, _, .rep f x g ks i p r hk h => on_rep f x g ks i p r hk (onr_spec hZ h)
    | _, _, _, _, _, .dry x g ks i p hk => on_burn 0 x g ks i p .dry hk (bu_dry x g ks i p)
    | _, _, _, _, _, .group f x y g ks i p r hk hy h => on_burn (f + 1) x g ks i p r (by omega) (bu_group hZ f x y g ks i p r hk hy (on_spec hZ h))
    | _, _, _, _, _, .bare f x y g ks i p r hk hy h => on_burn (f + 1) x g ks i p r (by omega) (bu_bare hZ f x y g ks i p r hk hy (on_spec hZ h))
    | _, _, _, _, _, .no f x g ks i p hk ht => on_burn (f + 1) x g ks i p (.fail f) ⟨hk.1, hk.2.1, hk.2.2.1⟩ (bu_no hZ f x g ks i p hk ht)
    | _, _, _, _, _, .yes f x g ks i p n r hk ht h => on_burn (f + 1) x g ks i p r ⟨hk.1, hk.2.1, hk.2.2.1⟩ (bu_yes hZ f x g ks i p n r hk ht (on_spec hZ h))
  theorem ona_spec (hZ : Z.Ok) : ∀ {f : Nat} {l : List Rt} {g : Nat} {ks : List Kt} {i : Nat} {p : List (Int × Int)} {r : Ro}, OnA Z.of (tkR Z.cs Z.fold) f l g ks i p r → AltC Z f l g ks i p r
    | _, _, _, _, _, _, _, .nil f g ks i p => .nil f g ks i p
    | _, _, _, _, _, _, _, .done f x l g ks i p r h hr => .done f x l g ks i p r (on_spec hZ h) hr
    | _, _, _, _, _, _, _, .next f f' x l g ks i p r h h2 => .next f f' x l g ks i p r (on_spec hZ h) (on_left _ _ h) (ona_spec hZ h2)
  theorem onr_spec (hZ : Z.Ok) : ∀ {f : Nat} {x : Rt} {g many : Nat} {ks : List Kt} {i : Nat} {p : List (Int × Int)} {r : Ro}, OnR Z.of (tkR Z.cs Z.fold) f x g many ks i p r → RpC Z f x g many ks i p r
    | _, _, _, _, _, _, _, _, .must f x g many ks i p r h1 h => rp_must f x g many ks i p r h1 (ont_spec hZ h)
    | _, _, _, _, _, _, _, _, .full f x g many ks i p r h1 h2 h => (by
      by_cases hl : x.lz = true
      · exact rp_fullL f x g many ks i p r h1 h2 hl (on_spec hZ h)
      · exact rp_fullN f x g many ks i p r h1 h2 (Bool.eq_false_iff.2 hl) (on_spec hZ h))
    | _, _, _, _, _, _, _, _, .lazyD f x g many ks i p r h1 h2 hl h hr => rp_lazyD f x g many ks i p r h1 h2 hl (on_spec hZ h) hr
    | _, _, _, _, _, _, _, _, .lazyN f f' x g many ks i p r h1 h2 hl h h3 => rp_lazyN f f' x g many ks i p r h1 h2 hl (on_left _ _ h) (on_spec hZ h) (ont_spec hZ h3)
    | _, _, _, _, _, _, _, _, .moreD f x g many ks i p r h1 h2 hl h hr => rp_moreD f x g many ks i p r h1 h2 hl (ont_spec hZ h) hr
    | _, _, _, _, _, _, _, _, .moreN f f' x g many ks i p r h1 h2 hl h h3 => rp_moreN f f' x g many ks i p r h1 h2 hl (ont_left _ _ h) (ont_spec hZ h) (on_spec hZ h3)
  theorem ont_spec (hZ : Z.Ok) : ∀ {f : Nat} {x : Rt} {g many : Nat} {ks : List Kt} {i : Nat} {p : List (Int × Int)} {r : Ro}, OnT Z.of (tkR Z.cs Z.fold) f x g many ks i p r → TmC Z f x g many ks i p r
    | _, _, _, _, _, _, _, _, .mk f x y g many ks i p r hy h => tm_mk hZ f x y g many ks i p r hy (on_spec hZ h)
end
end
end Go.Proofs.YtcnliipkfccohaaGreat
end
