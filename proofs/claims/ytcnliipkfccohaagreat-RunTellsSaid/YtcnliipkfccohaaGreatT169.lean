/- Contracts of gimletref16: repeat, one time more. Condition: rows that stay short. And 3 texts more. -/
import Derived.Test.YtcnliipkfccohaaGreatT168
import Derived.Deep.RegionHeld3
import Derived.Deep.DrawnRows
import Derived.BigRegion
import Derived.BigQuiet
import Derived.Deep.RegionLaw
import Derived.Deep.AppendLies
namespace Go.Proofs.YtcnliipkfccohaaGreat
end Go.Proofs.YtcnliipkfccohaaGreat
namespace Go.Proofs.YtcnliipkfccohaaGreat.SetM
end Go.Proofs.YtcnliipkfccohaaGreat.SetM
namespace Go.Proofs.YtcnliipkfccohaaGreat.SpanM
end Go.Proofs.YtcnliipkfccohaaGreat.SpanM
section
namespace Go.Proofs.YtcnliipkfccohaaGreat
open Go.ChangeShapes Go.WideShapes Go.ChangeAt Go.RowKit
open SetM SpanM
attribute [local go_sem ↓] Go.wp_at_zero Go.wp_at_succ
set_option maxRecDepth 100000
set_option linter.unusedVariables false
attribute [local go_sem] later_cell later_frozen
section
variable {Z : Rn}
set_option maxHeartbeats 4000000 in
theorem rp_moreN (f f' : Nat) (x : Rt) (g m : Nat) (ks : List Kt) (i : Nat) (p : List (Int × Int)) (r : Ro) (h1 : ¬ ((m : Nat) : Int) < x.mi) (h2 : ¬ (x.ma ≠ -1 ∧ x.ma ≤ ((m : Nat) : Int))) (hl : x.lz = false) (hf' : f' ≤ f) (ho : TmC Z f x g m ks i p (.fail f')) (ho2 : OnC Z f' ks i p r) : RpC Z f x g m ks i p r := by
  intro w b rv v hR hB hT hP hi hp hk hx hk7 hm hf
  have HT := hide (fun (W : World) (hbl : Below w.heap.size w W) => ho W b rv v (hR.bl hbl) (by obtain ⟨hq, hrx, kd, fr, hc⟩ := hB; exact ⟨hq, hrx, kd, fr, fun j u hu => cell_later hbl (hc j u hu)⟩) (hT.bl hbl) (hP.bl hbl) hi hp hk hx hk7 hm hf)
  have HG := hide (fun (W : World) (hb : Below w.heap.size w W) => gr_bl hb (some Z.rb))
  have HC := hide (fun (W : World) (hg : w.grownBy W (some Z.rb)) (hR6 : RnI Z W f' false) => ho2 W rv v hR6 (hT.gr hg) (hP.gr hg) hi hp hk (Nat.le_trans hf' hf))
  obtain ⟨hq, hrx, kd, fr, hc⟩ := hB
  obtain ⟨A, c, rfl⟩ := own_slice hP.1
  obtain ⟨a12, rfl⟩ := hT.ptr
  have HX := hide (fun (W : World) (hg : w.grownBy W (some Z.rb)) => (show W.cell? ⟨b, 12, none⟩ = some (.pointer a12) from cell_gr hg (fun e => hq (by injection e with e; exact e.symm)) (hc 12 _ rfl)))
  have x5 : w.cell? ⟨b, 5, none⟩ = some (.int .i64 x.mi) := hc 5 _ rfl
  have x6 : w.cell? ⟨b, 6, none⟩ = some (.int .i64 x.ma) := hc 6 _ rfl
  have x7 : w.cell? ⟨b, 7, none⟩ = some (.bool false) := by rw [← hl]; exact hc 7 _ rfl
  have x10 : w.cell? ⟨b, 10, none⟩ = some (.int .i64 ((m : Nat) : Int)) := hc 10 _ rfl
  have d1 : decide (((m : Nat) : Int) < x.mi) = false := decide_eq_false h1
  clear hR hc hT hP hi hp hk hx hf hq hrx hk7 hm h1 ho ho2 hl hf'
  by_cases e1 : x.ma = -1
  · have q1 : (x.ma == -1) = true := by rw [e1]; rfl
    clear e1 h2
    go_enter Tryz.func109, Tryz.ntmps109
    go_wp2_with fail
    go_quiet (fail)
    go_wp2_with fail
    go_quiet (fail)
    go_wp2_with fail
    refine (HT.out _ (by repeat (first | exact bl_refl _ | refine bl_drewN ?_ _))).mono ?_
    rintro e w6 hp6
    have HP6 := hide (hp6.from (HG.out _ (by repeat (first | exact bl_refl _ | refine bl_drewN ?_ _))))
    obtain ⟨hg6, rfl, hR6⟩ := hp6
    have y4 : w6.cell? ⟨Z.rb, 4, none⟩ = some (.bool false) := hR6.cm.c 4 _ rfl
    have lt6 := hR6.cm.s
    have x12 := HX.out _ HP6.out.1
    have HC6 := hide (HC.out w6 HP6.out.1 hR6)
    clear hR6 hg6
    go_wp2_with fail
    refine HC6.out.mono ?_
    rintro e w7 hp7
    have HP7 := hide (hp7.from HP6.out.1)
    obtain ⟨a4, A4, n4, c4', ok4, rfl⟩ := hp7.form
    clear hp7
    go_wp2_with fail
    refine bodyPost_ret (v := .tuple #[.int .i64 a4, .slice A4 n4 c4', .bool ok4]) ?_ rfl HP7.out
    rw [results_tmp3 rfl]
    go_simp
  · have q1 : (x.ma == -1) = false := beq_eq_false_iff_ne.2 e1
    have q2 : decide (((m : Nat) : Int) < x.ma) = true := decide_eq_true (by
      have : ¬ x.ma ≤ ((m : Nat) : Int) := fun h => h2 ⟨e1, h⟩
      omega)
    clear e1 h2
    go_enter Tryz.func109, Tryz.ntmps109
    go_wp2_with fail
    go_quiet (fail)
    go_wp2_with fail
    go_quiet (fail)
    go_wp2_with fail
    refine (HT.out _ (by repeat (first | exact bl_refl _ | refine bl_drewN ?_ _))).mono ?_
    rintro e w6 hp6
    have HP6 := hide (hp6.from (HG.out _ (by repeat (first | exact bl_refl _ | refine bl_drewN ?_ _))))
    obtain ⟨hg6, rfl, hR6⟩ := hp6
    have y4 : w6.cell? ⟨Z.rb, 4, none⟩ = some (.bool false) := hR6.cm.c 4 _ rfl
    have lt6 := hR6.cm.s
    have x12 := HX.out _ HP6.out.1
    have HC6 := hide (HC.out w6 HP6.out.1 hR6)
    clear hR6 hg6
    go_wp2_with fail
    refine HC6.out.mono ?_
    rintro e w7 hp7
    have HP7 := hide (hp7.from HP6.out.1)
    obtain ⟨a4, A4, n4, c4', ok4, rfl⟩ := hp7.form
    clear hp7
    go_wp2_with fail
    refine bodyPost_ret (v := .tuple #[.int .i64 a4, .slice A4 n4 c4', .bool ok4]) ?_ rfl HP7.out
    rw [results_tmp3 rfl]
    go_simp
end
end Go.Proofs.YtcnliipkfccohaaGreat
end
section
namespace Go.Proofs.YtcnliipkfccohaaGreat
open Go.ChangeShapes Go.WideShapes Go.ChangeAt Go.RowKit
open SetM SpanM
attribute [local go_sem ↓] Go.wp_at_zero Go.wp_at_succ
set_option maxRecDepth 100000
set_option linter.unusedVariables false
attribute [local go_sem] later_cell later_frozen
section
variable {Z : Rn}
set_option maxHeartbeats 4000000 in
theorem rp_lazyD (f : Nat) (x : Rt) (g m : Nat) (ks : List Kt) (i : Nat) (p : List (Int × Int)) (r : Ro) (h1 : ¬ ((m : Nat) : Int) < x.mi) (h2 : ¬ (x.ma ≠ -1 ∧ x.ma ≤ ((m : Nat) : Int))) (hl : x.lz = true) (ho : OnC Z f ks i p r) (hr : ∀ f', r ≠ .fail f') : RpC Z f x g m ks i p r := by
  intro w b rv v hR hB hT hP hi hp hk hx hk7 hm hf
  have HT := hide (fun (W : World) (hbl : Below w.heap.size w W) => ho W rv v (hR.bl hbl) (hT.bl hbl) (hP.bl hbl) hi hp hk hf)
  have HG := hide (fun (W : World) (hb : Below w.heap.size w W) => gr_bl hb (some Z.rb))
  have HR := hide hr
  obtain ⟨hq, hrx, kd, fr, hc⟩ := hB
  obtain ⟨A, c, rfl⟩ := own_slice hP.1
  obtain ⟨a12, rfl⟩ := hT.ptr
  have x12 : w.cell? ⟨b, 12, none⟩ = some (.pointer a12) := hc 12 _ rfl
  have x5 : w.cell? ⟨b, 5, none⟩ = some (.int .i64 x.mi) := hc 5 _ rfl
  have x6 : w.cell? ⟨b, 6, none⟩ = some (.int .i64 x.ma) := hc 6 _ rfl
  have x7 : w.cell? ⟨b, 7, none⟩ = some (.bool true) := by rw [← hl]; exact hc 7 _ rfl
  have x10 : w.cell? ⟨b, 10, none⟩ = some (.int .i64 ((m : Nat) : Int)) := hc 10 _ rfl
  have d1 : decide (((m : Nat) : Int) < x.mi) = false := decide_eq_false h1
  clear hR hc hT hP hi hp hk hx hf hq hrx hk7 hm h1 ho hl hr
  by_cases e1 : x.ma = -1
  · have q1 : (x.ma == -1) = true := by rw [e1]; rfl
    clear e1 h2
    cases r with
    | fail f' => exact absurd rfl (HR.out f')
    | found j p' f' =>
      go_enter Tryz.func109, Tryz.ntmps109
      go_wp2_with fail
      go_quiet (fail)
      go_wp2_with fail
      go_quiet (fail)
      go_wp2_with fail
      refine (HT.out _ (by repeat (first | exact bl_refl _ | refine bl_drewN ?_ _))).mono ?_
      rintro e w6 hp6
      have HP6 := hide (hp6.from (HG.out _ (by repeat (first | exact bl_refl _ | refine bl_drewN ?_ _))))
      obtain ⟨_, v6, rfl, hR6, hP6⟩ := hp6
      obtain ⟨A6, c6, rfl⟩ := own_slice hP6.1
      clear hR6 hP6
      go_wp2_with fail
      refine bodyPost_ret (v := .tuple #[.int .i64 ((j : Nat) : Int), .slice A6 p'.length c6, .bool true]) ?_ rfl HP6.out
      rw [results_tmp3 rfl]
      go_simp
    | dry =>
      go_enter Tryz.func109, Tryz.ntmps109
      go_wp2_with fail
      go_quiet (fail)
      go_wp2_with fail
      go_quiet (fail)
      go_wp2_with fail
      refine (HT.out _ (by repeat (first | exact bl_refl _ | refine bl_drewN ?_ _))).mono ?_
      rintro e w6 hp6
      have HP6 := hide (hp6.from (HG.out _ (by repeat (first | exact bl_refl _ | refine bl_drewN ?_ _))))
      obtain ⟨_, rfl, hR6⟩ := hp6
      have y4 : w6.cell? ⟨Z.rb, 4, none⟩ = some (.bool true) := hR6.cm.c 4 _ rfl
      have lt6 := hR6.cm.s
      clear hR6
      go_wp2_with fail
      refine bodyPost_ret (v := .tuple #[.int .i64 0, .slice none 0 0, .bool false]) ?_ rfl HP6.out
      rw [results_tmp3 rfl]
      go_simp
  · have q1 : (x.ma == -1) = false := beq_eq_false_iff_ne.2 e1
    have q2 : decide (((m : Nat) : Int) < x.ma) = true := decide_eq_true (by
      have : ¬ x.ma ≤ ((m : Nat) : Int) := fun h => h2 ⟨e1, h⟩
      omega)
    clear e1 h2
    cases r with
    | fail f' => exact absurd rfl (HR.out f')
    | found j p' f' =>
      go_enter Tryz.func109, Tryz.ntmps109
      go_wp2_with fail
      go_quiet (fail)
      go_wp2_with fail
      go_quiet (fail)
      go_wp2_with fail
      refine (HT.out _ (by repeat (first | exact bl_refl _ | refine bl_drewN ?_ _))).mono ?_
      rintro e w6 hp6
      have HP6 := hide (hp6.from (HG.out _ (by repeat (first | exact bl_refl _ | refine bl_drewN ?_ _))))
      obtain ⟨_, v6, rfl, hR6, hP6⟩ := hp6
      obtain ⟨A6, c6, rfl⟩ := own_slice hP6.1
      clear hR6 hP6
      go_wp2_with fail
      refine bodyPost_ret (v := .tuple #[.int .i64 ((j : Nat) : Int), .slice A6 p'.length c6, .bool true]) ?_ rfl HP6.out
      rw [results_tmp3 rfl]
      go_simp
    | dry =>
      go_enter Tryz.func109, Tryz.ntmps109
      go_wp2_with fail
      go_quiet (fail)
      go_wp2_with fail
      go_quiet (fail)
      go_wp2_with fail
      refine (HT.out _ (by repeat (first | exact bl_refl _ | refine bl_drewN ?_ _))).mono ?_
      rintro e w6 hp6
      have HP6 := hide (hp6.from (HG.out _ (by repeat (first | exact bl_refl _ | refine bl_drewN ?_ _))))
      obtain ⟨_, rfl, hR6⟩ := hp6
      have y4 : w6.cell? ⟨Z.rb, 4, none⟩ = some (.bool true) := hR6.cm.c 4 _ rfl
      have lt6 := hR6.cm.s
      clear hR6
      go_wp2_with fail
      refine bodyPost_ret (v := .tuple #[.int .i64 0, .slice none 0 0, .bool false]) ?_ rfl HP6.out
      rw [results_tmp3 rfl]
      go_simp
end
end Go.Proofs.YtcnliipkfccohaaGreat
end
section
namespace Go.Proofs.YtcnliipkfccohaaGreat
open Go.ChangeShapes Go.WideShapes Go.ChangeAt Go.RowKit
open SetM SpanM
attribute [local go_sem ↓] Go.wp_at_zero Go.wp_at_succ
set_option maxRecDepth 100000
set_option linter.unusedVariables false
attribute [local go_sem] later_cell later_frozen
section
variable {Z : Rn}
set_option maxHeartbeats 4000000 in
theorem rp_lazyN (f f' : Nat) (x : Rt) (g m : Nat) (ks : List Kt) (i : Nat) (p : List (Int × Int)) (r : Ro) (h1 : ¬ ((m : Nat) : Int) < x.mi) (h2 : ¬ (x.ma ≠ -1 ∧ x.ma ≤ ((m : Nat) : Int))) (hl : x.lz = true) (hf' : f' ≤ f) (ho : OnC Z f ks i p (.fail f')) (ho2 : TmC Z f' x g m ks i p r) : RpC Z f x g m ks i p r := by
  intro w b rv v hR hB hT hP hi hp hk hx hk7 hm hf
  have HT := hide (fun (W : World) (hbl : Below w.heap.size w W) => ho W rv v (hR.bl hbl) (hT.bl hbl) (hP.bl hbl) hi hp hk hf)
  have HG := hide (fun (W : World) (hb : Below w.heap.size w W) => gr_bl hb (some Z.rb))
  have HC := hide (fun (W : World) (hg : w.grownBy W (some Z.rb)) (hR6 : RnI Z W f' false) => ho2 W b rv v hR6 (by obtain ⟨hq, hrx, kd, fr, hc⟩ := hB; exact ⟨hq, hrx, kd, fr, fun j u hu => cell_gr hg (fun e => hq (by injection e with e; exact e.symm)) (hc j u hu)⟩) (hT.gr hg) (hP.gr hg) hi hp hk hx hk7 hm (Nat.le_trans hf' hf))
  obtain ⟨hq, hrx, kd, fr, hc⟩ := hB
  obtain ⟨A, c, rfl⟩ := own_slice hP.1
  obtain ⟨a12, rfl⟩ := hT.ptr
  have x12 : w.cell? ⟨b, 12, none⟩ = some (.pointer a12) := hc 12 _ rfl
  have x5 : w.cell? ⟨b, 5, none⟩ = some (.int .i64 x.mi) := hc 5 _ rfl
  have x6 : w.cell? ⟨b, 6, none⟩ = some (.int .i64 x.ma) := hc 6 _ rfl
  have x7 : w.cell? ⟨b, 7, none⟩ = some (.bool true) := by rw [← hl]; exact hc 7 _ rfl
  have x10 : w.cell? ⟨b, 10, none⟩ = some (.int .i64 ((m : Nat) : Int)) := hc 10 _ rfl
  have d1 : decide (((m : Nat) : Int) < x.mi) = false := decide_eq_false h1
  clear hR hc hT hP hi hp hk hx hf hq hrx hk7 hm h1 ho ho2 hl hf'
  by_cases e1 : x.ma = -1
  · have q1 : (x.ma == -1) = true := by rw [e1]; rfl
    clear e1 h2
    go_enter Tryz.func109, Tryz.ntmps109
    go_wp2_with fail
    go_quiet (fail)
    go_wp2_with fail
    go_quiet (fail)
    go_wp2_with fail
    refine (HT.out _ (by repeat (first | exact bl_refl _ | refine bl_drewN ?_ _))).mono ?_
    rintro e w6 hp6
    have HP6 := hide (hp6.from (HG.out _ (by repeat (first | exact bl_refl _ | refine bl_drewN ?_ _))))
    obtain ⟨hg6, rfl, hR6⟩ := hp6
    have y4 : w6.cell? ⟨Z.rb, 4, none⟩ = some (.bool false) := hR6.cm.c 4 _ rfl
    have lt6 := hR6.cm.s
    have HC6 := hide (HC.out w6 HP6.out.1 hR6)
    clear hR6 hg6
    go_wp2_with fail
    refine HC6.out.mono ?_
    rintro e w7 hp7
    have HP7 := hide (hp7.from HP6.out.1)
    obtain ⟨a4, A4, n4, c4', ok4, rfl⟩ := hp7.form
    clear hp7
    go_wp2_with fail
    refine bodyPost_ret (v := .tuple #[.int .i64 a4, .slice A4 n4 c4', .bool ok4]) ?_ rfl HP7.out
    rw [results_tmp3 rfl]
    go_simp
  · have q1 : (x.ma == -1) = false := beq_eq_false_iff_ne.2 e1
    have q2 : decide (((m : Nat) : Int) < x.ma) = true := decide_eq_true (by
      have : ¬ x.ma ≤ ((m : Nat) : Int) := fun h => h2 ⟨e1, h⟩
      omega)
    clear e1 h2
    go_enter Tryz.func109, Tryz.ntmps109
    go_wp2_with fail
    go_quiet (fail)
    go_wp2_with fail
    go_quiet (fail)
    go_wp2_with fail
    refine (HT.out _ (by repeat (first | exact bl_refl _ | refine bl_drewN ?_ _))).mono ?_
    rintro e w6 hp6
    have HP6 := hide (hp6.from (HG.out _ (by repeat (first | exact bl_refl _ | refine bl_drewN ?_ _))))
    obtain ⟨hg6, rfl, hR6⟩ := hp6
    have y4 : w6.cell? ⟨Z.rb, 4, none⟩ = some (.bool false) := hR6.cm.c 4 _ rfl
    have lt6 := hR6.cm.s
    have HC6 := hide (HC.out w6 HP6.out.1 hR6)
    clear hR6 hg6
    go_wp2_with fail
    refine HC6.out.mono ?_
    rintro e w7 hp7
    have HP7 := hide (hp7.from HP6.out.1)
    obtain ⟨a4, A4, n4, c4', ok4, rfl⟩ := hp7.form
    clear hp7
    go_wp2_with fail
    refine bodyPost_ret (v := .tuple #[.int .i64 a4, .slice A4 n4 c4', .bool ok4]) ?_ rfl HP7.out
    rw [results_tmp3 rfl]
    go_simp
end
end Go.Proofs.YtcnliipkfccohaaGreat
end
section
namespace Go.Proofs.YtcnliipkfccohaaGreat
open Go.ChangeShapes Go.WideShapes Go.ChangeAt Go.RowKit
open SetM SpanM
attribute [local go_sem ↓] Go.wp_at_zero Go.wp_at_succ
set_option maxRecDepth 100000
set_option linter.unusedVariables false
attribute [local go_sem] later_cell later_frozen
section
variable {Z : Rn}
set_option maxHeartbeats 4000000 in
theorem rp_fullL (f : Nat) (x : Rt) (g m : Nat) (ks : List Kt) (i : Nat) (p : List (Int × Int)) (r : Ro) (h1 : ¬ ((m : Nat) : Int) < x.mi) (h2 : x.ma ≠ -1 ∧ x.ma ≤ ((m : Nat) : Int)) (hl : x.lz = true) (ho : OnC Z f ks i p r) : RpC Z f x g m ks i p r := by
  intro w b rv v hR hB hT hP hi hp hk hx hk7 hm hf
  have HT := hide (fun (W : World) (hbl : Below w.heap.size w W) => ho W rv v (hR.bl hbl) (hT.bl hbl) (hP.bl hbl) hi hp hk hf)
  have HG := hide (fun (W : World) (hb : Below w.heap.size w W) => gr_bl hb (some Z.rb))
  obtain ⟨hq, hrx, kd, fr, hc⟩ := hB
  obtain ⟨A, c, rfl⟩ := own_slice hP.1
  obtain ⟨a12, rfl⟩ := hT.ptr
  have x12 : w.cell? ⟨b, 12, none⟩ = some (.pointer a12) := hc 12 _ rfl
  have x5 : w.cell? ⟨b, 5, none⟩ = some (.int .i64 x.mi) := hc 5 _ rfl
  have x6 : w.cell? ⟨b, 6, none⟩ = some (.int .i64 x.ma) := hc 6 _ rfl
  have x7 : w.cell? ⟨b, 7, none⟩ = some (.bool true) := by rw [← hl]; exact hc 7 _ rfl
  have x10 : w.cell? ⟨b, 10, none⟩ = some (.int .i64 ((m : Nat) : Int)) := hc 10 _ rfl
  have d1 : decide (((m : Nat) : Int) < x.mi) = false := decide_eq_false h1
  clear hR hc hT hP hi hp hk hx hf hq hrx hk7 hm h1 ho hl
  · have q1 : (x.ma == -1) = false := beq_eq_false_iff_ne.2 h2.1
    have q2 : decide (((m : Nat) : Int) < x.ma) = false := decide_eq_false (by have := h2.2; omega)
    clear h2
    cases r with
    | fail f' =>
      go_enter Tryz.func109, Tryz.ntmps109
      go_wp2_with fail
      go_quiet (fail)
      go_wp2_with fail
      go_quiet (fail)
      go_wp2_with fail
      refine (HT.out _ (by repeat (first | exact bl_refl _ | refine bl_drewN ?_ _))).mono ?_
      rintro e w6 hp6
      have HP6 := hide (hp6.from (HG.out _ (by repeat (first | exact bl_refl _ | refine bl_drewN ?_ _))))
      obtain ⟨_, rfl, hR6⟩ := hp6
      have y4 : w6.cell? ⟨Z.rb, 4, none⟩ = some (.bool false) := hR6.cm.c 4 _ rfl
      have lt6 := hR6.cm.s
      clear hR6
      go_wp2_with fail
      refine bodyPost_ret (v := .tuple #[.int .i64 0, .slice none 0 0, .bool false]) ?_ rfl HP6.out
      rw [results_tmp3 rfl]
      go_simp
    | found j p' f' =>
      go_enter Tryz.func109, Tryz.ntmps109
      go_wp2_with fail
      go_quiet (fail)
      go_wp2_with fail
      go_quiet (fail)
      go_wp2_with fail
      refine (HT.out _ (by repeat (first | exact bl_refl _ | refine bl_drewN ?_ _))).mono ?_
      rintro e w6 hp6
      have HP6 := hide (hp6.from (HG.out _ (by repeat (first | exact bl_refl _ | refine bl_drewN ?_ _))))
      obtain ⟨_, v6, rfl, hR6, hP6⟩ := hp6
      obtain ⟨A6, c6, rfl⟩ := own_slice hP6.1
      clear hR6 hP6
      go_wp2_with fail
      refine bodyPost_ret (v := .tuple #[.int .i64 ((j : Nat) : Int), .slice A6 p'.length c6, .bool true]) ?_ rfl HP6.out
      rw [results_tmp3 rfl]
      go_simp
    | dry =>
      go_enter Tryz.func109, Tryz.ntmps109
      go_wp2_with fail
      go_quiet (fail)
      go_wp2_with fail
      go_quiet (fail)
      go_wp2_with fail
      refine (HT.out _ (by repeat (first | exact bl_refl _ | refine bl_drewN ?_ _))).mono ?_
      rintro e w6 hp6
      have HP6 := hide (hp6.from (HG.out _ (by repeat (first | exact bl_refl _ | refine bl_drewN ?_ _))))
      obtain ⟨_, rfl, hR6⟩ := hp6
      have y4 : w6.cell? ⟨Z.rb, 4, none⟩ = some (.bool true) := hR6.cm.c 4 _ rfl
      have lt6 := hR6.cm.s
      clear hR6
      go_wp2_with fail
      refine bodyPost_ret (v := .tuple #[.int .i64 0, .slice none 0 0, .bool false]) ?_ rfl HP6.out
      rw [results_tmp3 rfl]
      go_simp
end
end Go.Proofs.YtcnliipkfccohaaGreat
end
