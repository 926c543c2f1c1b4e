/- Contracts: two formats held against one another; the laws' awake. Condition: formats that are not too long. -/
import Derived.Test.YtbphckblbbbakaaDoorFmX
import Derived.Test.YtbphckblbbbakaaDoorFmQ
namespace Go.Proofs.YtbphckblbbbakaaDoor
open Go.ChangeShapes Go.WideShapes Go.ChangeAt Go.RowKit
attribute [local go_sem ↓] Go.wp_at_zero Go.wp_at_succ
set_option maxRecDepth 100000
set_option linter.unusedVariables false
theorem neq_fm (k1 n1 c1 : Int) (t1 e1 : ByteArray) (w : World) : (binOp .neq 41 (.agg #[.int .i64 k1, .int .i64 n1, .int .i64 c1, .string t1, .string e1]) (.agg #[.int .i64 k1, .int .i64 n1, .int .i64 c1, .string t1, .string e1])).run Tryd.prog w = .ok (.bool false) w := by
  go_simp
theorem eqgn_fm (x y : Operand) (k1 n1 c1 : Int) (t1 e1 : ByteArray) (k2 n2 c2 : Int) (t2 e2 : ByteArray) (w : World) : (eqGuard .neq 41 x y (.agg #[.int .i64 k1, .int .i64 n1, .int .i64 c1, .string t1, .string e1]) (.agg #[.int .i64 k2, .int .i64 n2, .int .i64 c2, .string t2, .string e2])).run Tryd.prog w = .ok () w :=
  run_eqGuard_agg _ _ _ _ _ _ _ (by kernel_rfl)
attribute [local go_sem] eqgn_fm eqge_fm
attribute [local go_sem ↓] neq_fm eql_fm
set_option maxHeartbeats 4000000 in
/-- Two formats that read as one and the same are the same. -/
theorem fmts_same (v u : Value) (l : List Fm) (w : World) (h : FmAt w v l) (g : FmAt w u l) (hl : l.length ≤ 1000000) : Calls Tryd.prog 16 #[v, u] w fun e w' => e = .returned (.bool true) ∧ Below w.heap.size w w' := by
  have H := hide h
  have G := hide g
  obtain ⟨vA, vc, rfl⟩ := fmat_len h
  obtain ⟨uA, uc, rfl⟩ := fmat_len g
  have e0 : ((l.length : Int) != (l.length : Int)) = false := by simp
  clear h g
  go_enter Tryd.func16, Tryd.ntmps16
  go_wp2
  go_loopw [5] (fun i wr => ∃ k : Nat, i = .int .i64 k ∧ k ≤ l.length ∧ Hid (Below w.heap.size w wr)) (fun i _ => l.length - (intOf i).toNat)
  case atStart => exact ⟨0, rfl, Nat.zero_le _, hide (bl_refl w)⟩
  case round =>
    obtain ⟨k, rfl, hk, HBL⟩ := hrel
    by_cases hlt : k < l.length
    · obtain ⟨b1, o1, c1, hv1, hc1, hm1, hlb1, hcell1⟩ := fmat_some (fmat_below H.out HBL.out) (by omega)
      injection hv1 with hv1 _ hv1c
      subst hv1 hv1c
      obtain ⟨b2, o2, c2, hv2, hc2, hm2, hlb2, hcell2⟩ := fmat_some (fmat_below G.out HBL.out) (by omega)
      injection hv2 with hv2 _ hv2c
      subst hv2 hv2c
      unfold maxLen at hm1 hm2
      obtain ⟨x0, x1, x2, x3, x4⟩ := hcell1 k hlt
      obtain ⟨y0, y1, y2, y3, y4⟩ := hcell2 k hlt
      clear hcell1 hcell2
      obtain ⟨d, hd⟩ : ∃ d, l[k] = d := ⟨_, rfl⟩
      rw [hd] at x0 x1 x2 x3 x4 y0 y1 y2 y3 y4
      obtain ⟨dk, dn, dc, dt, de⟩ := d
      dsimp only at x0 x1 x2 x3 x4 y0 y1 y2 y3 y4
      have gl : decide (k < l.length) = true := decide_eq_true hlt
      have e5 : IntKind.i64.wrap ((k : Int) + 1) = (k : Int) + 1 := by rw [IntKind.wrap_i64]; omega
      clear hd
      go_wp2
      go_quiet (fail)
      have HB2 := hide (bl_drewN HBL.out nq)
      clear x0 x1 x2 x3 x4 y0 y1 y2 y3 y4
      go_wp2
      refine ⟨?_, by first | (simp [intOf]; done) | (simp [intOf]; omega)⟩
      first
        | exact ⟨k + 1, by go_num, by omega, HB2⟩
        | ((repeat apply Exists.intro); exact ⟨⟨k + 1, by go_num, by omega, HB2⟩, rfl⟩)
    · obtain rfl : k = l.length := by omega
      have gl : decide (l.length < l.length) = false := by simp
      go_wp2
      go_ret
      exact ⟨rfl, HBL.out⟩
def aw1 : List Fm := [⟨0, 0, 0, ⟨#[97]⟩, ⟨#[]⟩⟩, ⟨1, 1, 0, ⟨#[]⟩, ⟨#[]⟩⟩]
theorem aw_read : readF ((⟨#[97, 36, 49, 47, 105]⟩ : ByteArray).size + 1) ((⟨#[97, 36, 49, 47, 105]⟩ : ByteArray).data.toList.drop 0) [] [] [] = some (aw1, [47, 105]) := by rfl
def aw2 : List Fm := [⟨3, 1, 0, ⟨#[120]⟩, nilB⟩]
def aw3 : List ByteArray := [⟨#[97, 98]⟩, ⟨#[98]⟩]
theorem aw_may : mayL aw2 = true := mayL_of (fun d hd => by simp [aw2] at hd; subst hd; exact ok_if 1 (by decide) _) (fun i hi => by simp [aw2] at hi)
theorem aw_mk : mkF aw3 ⟨3, 1, 0, ⟨#[120]⟩, nilB⟩ = ⟨#[120]⟩ := by
  have : ptF aw3 1 = ⟨#[98]⟩ := rfl
  unfold mkF
  rw [this]
  unfold apF1
  rw [if_neg (by decide), if_neg (by decide), if_pos (by decide), Go.ByteArray.toList_eq]
  rfl
theorem aw_apply : (⟨(if mayL aw2 = true then mkL aw3 aw2 else []).toArray⟩ : ByteArray) = ⟨#[120]⟩ := by
  rw [if_pos aw_may]
  unfold mkL aw2
  simp only [List.flatMap_cons, List.flatMap_nil, aw_mk, List.append_nil]
theorem ptF_le {ps : List ByteArray} {m : Nat} (h : ∀ x ∈ ps, x.size ≤ m) (n : Int) : (ptF ps n).size ≤ m := by
  unfold ptF
  split
  · by_cases hn : n.toNat < ps.length
    · rw [getElem!_pos ps n.toNat hn]; exact h _ (List.getElem_mem hn)
    · rw [getElem!_neg ps n.toNat hn]; exact Nat.zero_le _
  · exact Nat.zero_le _
theorem aw_fm (w : World) : FmAt (w.alloc (.cells #[.int .i64 3, .int .i64 1, .int .i64 0, .string ⟨#[120]⟩, .string ⟨#[]⟩] 41)) (.slice (some ⟨w.heap.size, 0, none⟩) 1 1) aw2 := by
  refine .inr ⟨⟨w.heap.size, 0, none⟩, 1, rfl, Nat.le_refl _, by unfold maxLen; decide, fun i hi => ?_⟩
  obtain rfl : i = 0 := by simp [aw2] at hi; exact hi
  exact ⟨cells_lit w _ _ 0 _ rfl, cells_lit w _ _ 1 _ rfl, cells_lit w _ _ 2 _ rfl, cells_lit w _ _ 3 _ rfl, cells_lit w _ _ 4 _ rfl⟩
theorem aw_sr (w : World) (n : Nat) (hn : w.heap.size = n) : SrAt (w.alloc (.cells #[.string ⟨#[97, 98]⟩, .string ⟨#[98]⟩] 9)) (.slice (some ⟨n, 0, none⟩) 2 2) aw3 := by
  subst hn
  refine ⟨_, 2, rfl, Nat.le_refl _, by unfold maxLen; decide, fun i hi => ⟨w.heap.size, 0, rfl, ?_⟩⟩
  have h2 : i < 2 := hi
  rw [Nat.zero_add]
  have key : ∀ j u, ([.string ⟨#[97, 98]⟩, .string ⟨#[98]⟩] : List Value)[j]? = some u → (w.alloc (.cells #[.string ⟨#[97, 98]⟩, .string ⟨#[98]⟩] 9)).cell? ⟨w.heap.size, j, none⟩ = some u := fun j u hu => by
    rw [World.cell?_alloc_mark w _ _ (0, 0) j, ← hu]; simp
  match i, h2 with
  | 0, _ => exact key 0 _ rfl
  | 1, _ => exact key 1 _ rfl
set_option maxHeartbeats 4000000 in
theorem awake18_any (w : World) : Calls Tryd.prog 8 #[] w fun e w' => e = .returned (.bool true) ∧ Below w.heap.size w w' := by
  have HR := hide (fun W => read_any (w := W) (s := ⟨#[97, 36, 49, 47, 105]⟩) (k := 0) (by decide) (by decide) _ aw_read)
  have q1 : eqF 0 0 0 ⟨#[97]⟩ ⟨#[]⟩ 0 0 0 ⟨#[97]⟩ ⟨#[]⟩ = true := eqF_self _ _ _ _ _
  have q2 : eqF 1 1 0 ⟨#[]⟩ ⟨#[]⟩ 1 1 0 ⟨#[]⟩ ⟨#[]⟩ = true := eqF_self _ _ _ _ _
  go_enter Tryd.func8, Tryd.ntmps8
  go_wp2_with fail
  refine (HR.out _).mono ?_
  rintro e w1 ⟨v, rfl, hv, hb1⟩
  obtain ⟨b1, o1, c1, rfl, hc1, hm1, hlb1, hcell⟩ := fmat_some hv (by decide)
  obtain ⟨x0, x1, x2, x3, x4⟩ : w1.cell? ⟨b1, o1, none⟩ = some (.int .i64 0) ∧ w1.cell? ⟨b1, o1 + 1, none⟩ = some (.int .i64 0) ∧ w1.cell? ⟨b1, o1 + 2, none⟩ = some (.int .i64 0) ∧ w1.cell? ⟨b1, o1 + 3, none⟩ = some (.string ⟨#[97]⟩) ∧ w1.cell? ⟨b1, o1 + 4, none⟩ = some (.string ⟨#[]⟩) := hcell 0 (by decide)
  obtain ⟨y0, y1, y2, y3, y4⟩ : w1.cell? ⟨b1, o1 + 5, none⟩ = some (.int .i64 1) ∧ w1.cell? ⟨b1, o1 + 6, none⟩ = some (.int .i64 1) ∧ w1.cell? ⟨b1, o1 + 7, none⟩ = some (.int .i64 0) ∧ w1.cell? ⟨b1, o1 + 8, none⟩ = some (.string ⟨#[]⟩) ∧ w1.cell? ⟨b1, o1 + 9, none⟩ = some (.string ⟨#[]⟩) := hcell 1 (by decide)
  have HB1 := hide hb1
  rw [show aw1.length = 2 from rfl] at hc1 ⊢
  have hA := fapplyL_any _ _ aw2 aw3 _ (fmat_below (aw_fm w1) (bl_alloc (bl_refl _) (.cells #[.string ⟨#[97, 98]⟩, .string ⟨#[98]⟩] 9))) (aw_sr (w1.alloc (.cells #[.int .i64 3, .int .i64 1, .int .i64 0, .string ⟨#[120]⟩, .string ⟨#[]⟩] 41)) (w1.heap.size + 1) (by simp)) (by decide) (by decide) (fun n => ptF_le (by decide) n) (fun d hd => by simp [aw2] at hd; subst hd; rw [aw_mk]; decide)
  rw [aw_apply] at hA
  have HA := hide hA
  have hba : Below w1.heap.size w1 ((w1.alloc (.cells #[.int .i64 3, .int .i64 1, .int .i64 0, .string ⟨#[120]⟩, .string ⟨#[]⟩] 41)).alloc (.cells #[.string ⟨#[97, 98]⟩, .string ⟨#[98]⟩] 9)) := bl_alloc (bl_alloc (bl_refl w1) _) _
  have HBA := hide hba
  clear hv hcell hb1 HR hA hba
  go_wp2_with fail
  refine HA.out.mono ?_
  rintro e w3 ⟨rfl, hb3⟩
  have hb4 := bl_trans HBA.out hb3
  have HB4 := hide (bl_trans HB1.out hb4)
  replace x0 := cell_later hb4 x0
  replace x1 := cell_later hb4 x1
  replace x2 := cell_later hb4 x2
  replace x3 := cell_later hb4 x3
  replace x4 := cell_later hb4 x4
  replace y0 := cell_later hb4 y0
  replace y1 := cell_later hb4 y1
  replace y2 := cell_later hb4 y2
  replace y3 := cell_later hb4 y3
  replace y4 := cell_later hb4 y4
  clear hb3 hb4 HA HBA
  go_wp2
  go_ret
  exact ⟨rfl, HB4.out⟩
end Go.Proofs.YtbphckblbbbakaaDoor
