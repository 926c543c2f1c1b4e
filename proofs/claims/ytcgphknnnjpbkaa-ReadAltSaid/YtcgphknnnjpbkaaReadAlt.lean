/- Two texts that are read, with a bar between, are read as alternatives of both. Conditions: none beyond the form's own. -/
import Derived.Test.YtcgphknnnjpbkaaRows
import Derived.Test.YtcgphknnnjpbkaaArgs
import Derived.Test.YtcgphknnnjpbkaaPbB
namespace Go.Proofs.Ytcgphknnnjpbkaa.readAlt
open Go.Proofs.Ytcgphknnnjpbkaa
open Go.ChangeShapes Go.WideShapes Go.ChangeAt Go.RowKit Go.Deep
open Go.ChangeMaps (open_string shut_string)
set_option linter.unusedVariables false

theorem own : ownKnob Try.prog.godebug = none := by kernel_rfl
theorem laidOut : laidOutB Try.prog = true := by kernel_rfl
open SetM
attribute [local go_sem ↓] Go.wp_at_zero Go.wp_at_succ
attribute [local go_sem] later_cell later_frozen
set_option maxRecDepth 100000 in
set_option maxHeartbeats 1000000 in
theorem walk (a0 : ByteArray) (a1 : ByteArray) (w : World) (w0 : a0.size ≤ maxLen) (w1 : a1.size ≤ maxLen) :
    Calls Try.prog 5 #[.string a0, .string a1] w fun e w' => e = .returned (.bool true) ∧ Below w.heap.size w w' := by
  by_cases h1 : 100 < a0.size
  case pos =>
    have g1 : decide (100 < a0.size) = true := decide_eq_true h1
    have g1' : decide (100 < (a0.size : Int)) = true := decide_eq_true (by omega)
    clear h1
    go_enter Try.func5, Try.ntmps5
    go_wp2_with fail
    refine (awake14_any _).mono ?_
    rintro e w1 ⟨rfl, hb1⟩
    have HB1 := hide (hb1)
    clear hb1
    go_wp2
    go_ret
    exact ⟨rfl, HB1.out⟩
  have g1 : decide (100 < a0.size) = false := decide_eq_false h1
  have g1' : decide (100 < (a0.size : Int)) = false := decide_eq_false (by omega)
  by_cases h2 : 100 < a1.size
  case pos =>
    have g2 : decide (100 < a1.size) = true := decide_eq_true h2
    have g2' : decide (100 < (a1.size : Int)) = true := decide_eq_true (by omega)
    clear h1 h2
    go_enter Try.func5, Try.ntmps5
    go_wp2_with fail
    refine (awake14_any _).mono ?_
    rintro e w1 ⟨rfl, hb1⟩
    have HB1 := hide (hb1)
    clear hb1
    go_wp2
    go_ret
    exact ⟨rfl, HB1.out⟩
  have g2 : decide (100 < a1.size) = false := decide_eq_false h2
  have g2' : decide (100 < (a1.size : Int)) = false := decide_eq_false (by omega)
  have HZ := hide (show a0.size ≤ 100 ∧ a1.size ≤ 100 by omega)
  have s1 : a0.size ≤ 100 := HZ.out.1
  have s2 : a1.size ≤ 100 := HZ.out.2
  obtain ⟨n1, hn1⟩ : ∃ n, rdN (readP a0.data.toList) = n := ⟨_, rfl⟩
  obtain ⟨n2, hn2⟩ : ∃ n, rdN (readP a1.data.toList) = n := ⟨_, rfl⟩
  obtain ⟨n3, hn3⟩ : ∃ n, rdN (readP (a0 ++ ⟨#[124]⟩ ++ a1).data.toList) = n := ⟨_, rfl⟩
  have HW1 := hide (fun W => read_w a0 (by omega) n1 hn1 W)
  have HW2 := hide (fun W => read_w a1 (by omega) n2 hn2 W)
  have HW3 := hide (fun W => read_w (a0 ++ ⟨#[124]⟩ ++ a1) (by simp only [ByteArray.size_append]; show a0.size + 1 + a1.size ≤ _; omega) n3 hn3 W)
  unfold RdwPost at HW1 HW2 HW3
  have HN1 := hide hn1
  have HN2 := hide hn2
  clear h1 h2 hn1 hn2 hn3
  by_cases q1 : n1 = 0
  case neg =>
    have k1 : (n1 == 0) = false := by rw [Bool.eq_false_iff]; intro h; exact q1 (beq_iff_eq.1 h)
    clear q1
    go_enter Try.func5, Try.ntmps5
    go_wp2_with fail
    refine (HW1.out _).mono ?_
    rintro e w1 ⟨p0, p1, p2, p3, p4, p5, p6, p7, p8, p9, pa, pb, rfl, hb1⟩
    have HB1 := hide (bl_alloc (hb1) (.cells #[.int .i64 p0, .string p1, .bool p2, .slice p3 p4 p5, .int .i64 p6, .int .i64 p7, .bool p8, .slice p9 pa pb] 26))
    clear hb1
    go_wp2_with fail
    refine (HW2.out _).mono ?_
    rintro e w2 ⟨q0, q1, q2, q3, q4, q5, q6, q7, q8, q9, qa, qb, rfl, hb2⟩
    have HB2 := hide (bl_alloc (bl_trans HB1.out hb2) (.cells #[.int .i64 q0, .string q1, .bool q2, .slice q3 q4 q5, .int .i64 q6, .int .i64 q7, .bool q8, .slice q9 qa qb] 26))
    clear hb2
    go_wp2_with fail
    refine (HW3.out _).mono ?_
    rintro e w3 ⟨r0, r1, r2, r3, r4, r5, r6, r7, r8, r9, ra, rb, rfl, hb3⟩
    have HB3 := hide (bl_alloc (bl_trans HB2.out hb3) (.cells #[.int .i64 r0, .string r1, .bool r2, .slice r3 r4 r5, .int .i64 r6, .int .i64 r7, .bool r8, .slice r9 ra rb] 26))
    clear hb3
    go_wp2_with fail
    refine (awake14_any _).mono ?_
    rintro e w4 ⟨rfl, hb4⟩
    have HB4 := hide (bl_trans HB3.out hb4)
    clear hb4
    go_wp2
    go_ret
    exact ⟨rfl, HB4.out⟩
  have q10 : n1 = 0 := q1
  subst q10
  by_cases q2 : n2 = 0
  case neg =>
    have k2 : (n2 == 0) = false := by rw [Bool.eq_false_iff]; intro h; exact q2 (beq_iff_eq.1 h)
    clear q2
    go_enter Try.func5, Try.ntmps5
    go_wp2_with fail
    refine (HW1.out _).mono ?_
    rintro e w1 ⟨p0, p1, p2, p3, p4, p5, p6, p7, p8, p9, pa, pb, rfl, hb1⟩
    have HB1 := hide (bl_alloc (hb1) (.cells #[.int .i64 p0, .string p1, .bool p2, .slice p3 p4 p5, .int .i64 p6, .int .i64 p7, .bool p8, .slice p9 pa pb] 26))
    clear hb1
    go_wp2_with fail
    refine (HW2.out _).mono ?_
    rintro e w2 ⟨q0, q1, q2, q3, q4, q5, q6, q7, q8, q9, qa, qb, rfl, hb2⟩
    have HB2 := hide (bl_alloc (bl_trans HB1.out hb2) (.cells #[.int .i64 q0, .string q1, .bool q2, .slice q3 q4 q5, .int .i64 q6, .int .i64 q7, .bool q8, .slice q9 qa qb] 26))
    clear hb2
    go_wp2_with fail
    refine (HW3.out _).mono ?_
    rintro e w3 ⟨r0, r1, r2, r3, r4, r5, r6, r7, r8, r9, ra, rb, rfl, hb3⟩
    have HB3 := hide (bl_alloc (bl_trans HB2.out hb3) (.cells #[.int .i64 r0, .string r1, .bool r2, .slice r3 r4 r5, .int .i64 r6, .int .i64 r7, .bool r8, .slice r9 ra rb] 26))
    clear hb3
    go_wp2_with fail
    refine (awake14_any _).mono ?_
    rintro e w4 ⟨rfl, hb4⟩
    have HB4 := hide (bl_trans HB3.out hb4)
    clear hb4
    go_wp2
    go_ret
    exact ⟨rfl, HB4.out⟩
  subst q2
  obtain ⟨x, hx⟩ := rdN_ok HN1.out
  obtain ⟨y, hy⟩ := rdN_ok HN2.out
  have lz0 : a0.data.toList.length = a0.size := Array.length_toList
  have lz1 : a1.data.toList.length = a1.size := Array.length_toList
  have hz : readP (a0 ++ ⟨#[124]⟩ ++ a1).data.toList = .ok (altX (flK 1 [x, y])) [] := by
    rw [show (a0 ++ ⟨#[124]⟩ ++ a1).data.toList = a0.data.toList ++ 124 :: a1.data.toList by simp]
    exact readP_alt hx hy (by omega)
  have HX := hide (fun W => read_any a0 (by omega) W _ hx)
  have HY := hide (fun W => read_any a1 (by omega) W _ hy)
  unfold RdPost at HX HY
  have HXV := hide (readP_va hx)
  have HYV := hide (readP_va hy)
  have HZR := hide (fun W => read_any (a0 ++ ⟨#[124]⟩ ++ a1) (by simp only [ByteArray.size_append]; show a0.size + 1 + a1.size ≤ _; omega) W _ hz)
  unfold RdPost at HZR
  clear hx hy hz lz0 lz1 HW1 HW2 HW3 HN1 HN2
  go_enter Try.func5, Try.ntmps5
  go_wp2_with fail
  refine (HX.out _).mono ?_
  rintro e w1 ⟨t, rfl, hb1, hrx1, -, her1⟩
  obtain ⟨tA, ta, tB, tb, hrv1, hkv1, hv1⟩ := rx_vv hrx1
  rw [hv1]
  have HB1 := hide (bl_alloc (hb1) (.cells #[.int .i64 t.k, .string t.ch, .bool t.nt, .slice tA t.rows.length ta, .int .i64 t.mi, .int .i64 t.ma, .bool t.lz, .slice tB t.kids.length tb] 26))
  have HX1 := hide hrx1
  have HR1 := hide hrv1
  have HK1 := hide hkv1
  have HE1 := hide her1
  clear hb1 hrx1 her1 hrv1 hkv1 hv1
  go_wp2_with fail
  refine (HY.out _).mono ?_
  rintro e w2 ⟨u, rfl, hb2, hrx2, -, her2⟩
  obtain ⟨uA, ua, uB, ub, hrv2, hkv2, hv2⟩ := rx_vv hrx2
  rw [hv2]
  have HB2 := hide (bl_alloc (bl_trans HB1.out hb2) (.cells #[.int .i64 u.k, .string u.ch, .bool u.nt, .slice uA u.rows.length ua, .int .i64 u.mi, .int .i64 u.ma, .bool u.lz, .slice uB u.kids.length ub] 26))
  have HX2 := hide hrx2
  have HR2 := hide hrv2
  have HK2 := hide hkv2
  have HE2 := hide her2
  have HBT := hide hb2
  have HC1 := hide (cx_below (cx_new w1 t HR1.out HK1.out) hb2)
  clear hb2 hrx2 her2 hrv2 hkv2 hv2
  go_wp2_with fail
  refine (HZR.out _).mono ?_
  rintro e w3 ⟨v, rfl, hb3, hrx3, -, her3⟩
  obtain ⟨vA, va, vB, vb, hrv3, hkv3, hv3⟩ := rx_vv hrx3
  rw [hv3]
  have HB3 := hide (bl_alloc (bl_trans HB2.out hb3) (.cells #[.int .i64 v.k, .string v.ch, .bool v.nt, .slice vA v.rows.length va, .int .i64 v.mi, .int .i64 v.ma, .bool v.lz, .slice vB v.kids.length vb] 26))
  have HX3 := hide hrx3
  have HR3 := hide hrv3
  have HK3 := hide hkv3
  have HE3 := hide her3
  obtain ⟨W3, hW3⟩ : ∃ W, w3.alloc (.cells #[.int .i64 v.k, .string v.ch, .bool v.nt, .slice vA v.rows.length va, .int .i64 v.mi, .int .i64 v.ma, .bool v.lz, .slice vB v.kids.length vb] 26) = W := ⟨_, rfl⟩
  have hbz : Below w3.heap.size w3 W3 := by rw [← hW3]; exact bl_alloc (bl_refl w3) _
  have hb2z : Below w2.heap.size w2 W3 := bl_trans (bl_alloc (bl_refl w2) (.cells #[.int .i64 u.k, .string u.ch, .bool u.nt, .slice uA u.rows.length ua, .int .i64 u.mi, .int .i64 u.ma, .bool u.lz, .slice uB u.kids.length ub] 26)) (bl_trans hb3 hbz)
  have hb1z : Below w1.heap.size w1 W3 := bl_trans (bl_alloc (bl_refl w1) (.cells #[.int .i64 t.k, .string t.ch, .bool t.nt, .slice tA t.rows.length ta, .int .i64 t.mi, .int .i64 t.ma, .bool t.lz, .slice tB t.kids.length tb] 26)) (bl_trans (show Below (w1.alloc (.cells #[.int .i64 t.k, .string t.ch, .bool t.nt, .slice tA t.rows.length ta, .int .i64 t.mi, .int .i64 t.ma, .bool t.lz, .slice tB t.kids.length tb] 26)).heap.size (w1.alloc (.cells #[.int .i64 t.k, .string t.ch, .bool t.nt, .slice tA t.rows.length ta, .int .i64 t.mi, .int .i64 t.ma, .bool t.lz, .slice tB t.kids.length tb] 26)) w2 from HBT.out) hb2z)
  have hcx : CxAt W3 w1.heap.size t := cx_below HC1.out hb2z
  have hcy : CxAt W3 w2.heap.size u := cx_below (cx_new w2 u HR2.out HK2.out) (bl_trans hb3 hbz)
  have hcz : CxAt W3 w3.heap.size v := by rw [← hW3]; exact cx_new w3 v HR3.out HK3.out
  have hrx : RxAt W3 t := rx_below HX1.out hb1z
  have hry : RxAt W3 u := rx_below HX2.out hb2z
  have hrz : RxAt W3 v := rx_below HX3.out hbz
  have hbw : Below w.heap.size w W3 := by rw [← hW3]; exact HB3.out
  have hsm : sM t + sM u ≤ 100000 := by
    have h1 := HXV.out
    have h2 := HYV.out
    have e1 : sM t = sM x := by rw [← sM_er, HE1.out]
    have e2 : sM u = sM y := by rw [← sM_er, HE2.out]
    omega
  have hee : er v = altX (flK 1 [t, u]) := by
    rw [HE3.out, ← flK_er 1 [t, u], List.map_cons, List.map_cons, HE1.out, HE2.out]; rfl
  obtain ⟨c0, c1, c2, c3, c4, c5, c6, c7⟩ := cx_8 hcx HR1.out HK1.out
  obtain ⟨d0, d1, d2, d3, d4, d5, d6, d7⟩ := cx_8 hcy HR2.out HK2.out
  obtain ⟨e0, e1, e2, e3, e4, e5, e6, e7⟩ := cx_8 hcz HR3.out HK3.out
  have HRX := hide hrx
  have HRY := hide hry
  have HRZ := hide hrz
  have HBW := hide hbw
  have HSM := hide hsm
  have HEE := hide hee
  have HHZ := hide (show w1.heap.size < W3.heap.size ∧ w2.heap.size < W3.heap.size ∧ w3.heap.size < W3.heap.size from ⟨World.block_lt_of_cell? _ _ c0, World.block_lt_of_cell? _ _ d0, World.block_lt_of_cell? _ _ e0⟩)
  have HKEEP := hide (show ∀ W, Below W3.heap.size W3 W → (Below W3.heap.size W3 W ∧ W.cell? ⟨w1.heap.size, 0, none⟩ = some (.int .i64 t.k) ∧ W.cell? ⟨w1.heap.size, 1, none⟩ = some (.string t.ch) ∧ W.cell? ⟨w1.heap.size, 2, none⟩ = some (.bool t.nt) ∧ W.cell? ⟨w1.heap.size, 3, none⟩ = some (.slice tA t.rows.length ta) ∧ W.cell? ⟨w1.heap.size, 4, none⟩ = some (.int .i64 t.mi) ∧ W.cell? ⟨w1.heap.size, 5, none⟩ = some (.int .i64 t.ma) ∧ W.cell? ⟨w1.heap.size, 6, none⟩ = some (.bool t.lz) ∧ W.cell? ⟨w1.heap.size, 7, none⟩ = some (.slice tB t.kids.length tb) ∧ W.cell? ⟨w2.heap.size, 0, none⟩ = some (.int .i64 u.k) ∧ W.cell? ⟨w2.heap.size, 1, none⟩ = some (.string u.ch) ∧ W.cell? ⟨w2.heap.size, 2, none⟩ = some (.bool u.nt) ∧ W.cell? ⟨w2.heap.size, 3, none⟩ = some (.slice uA u.rows.length ua) ∧ W.cell? ⟨w2.heap.size, 4, none⟩ = some (.int .i64 u.mi) ∧ W.cell? ⟨w2.heap.size, 5, none⟩ = some (.int .i64 u.ma) ∧ W.cell? ⟨w2.heap.size, 6, none⟩ = some (.bool u.lz) ∧ W.cell? ⟨w2.heap.size, 7, none⟩ = some (.slice uB u.kids.length ub) ∧ W.cell? ⟨w3.heap.size, 0, none⟩ = some (.int .i64 v.k) ∧ W.cell? ⟨w3.heap.size, 1, none⟩ = some (.string v.ch) ∧ W.cell? ⟨w3.heap.size, 2, none⟩ = some (.bool v.nt) ∧ W.cell? ⟨w3.heap.size, 3, none⟩ = some (.slice vA v.rows.length va) ∧ W.cell? ⟨w3.heap.size, 4, none⟩ = some (.int .i64 v.mi) ∧ W.cell? ⟨w3.heap.size, 5, none⟩ = some (.int .i64 v.ma) ∧ W.cell? ⟨w3.heap.size, 6, none⟩ = some (.bool v.lz) ∧ W.cell? ⟨w3.heap.size, 7, none⟩ = some (.slice vB v.kids.length vb)) from fun W hb => ⟨hb, cell_later hb c0, cell_later hb c1, cell_later hb c2, cell_later hb c3, cell_later hb c4, cell_later hb c5, cell_later hb c6, cell_later hb c7, cell_later hb d0, cell_later hb d1, cell_later hb d2, cell_later hb d3, cell_later hb d4, cell_later hb d5, cell_later hb d6, cell_later hb d7, cell_later hb e0, cell_later hb e1, cell_later hb e2, cell_later hb e3, cell_later hb e4, cell_later hb e5, cell_later hb e6, cell_later hb e7⟩)
  have HOP := hide (fun (V W : World) (n : Nat) (arr : Array Value) (h1 : Below (V.alloc (.cells arr 26)).heap.size (V.alloc (.cells arr 26)) W) (h2 : n = V.heap.size) (h3 : Below W3.heap.size W3 V) (ha : arr.toList = [.int .i64 t.k, .string t.ch, .bool t.nt, .slice tA t.rows.length ta, .int .i64 t.mi, .int .i64 t.ma, .bool t.lz, .slice tB t.kids.length tb, .int .i64 u.k, .string u.ch, .bool u.nt, .slice uA u.rows.length ua, .int .i64 u.mi, .int .i64 u.ma, .bool u.lz, .slice uB u.kids.length ub]) => alt_lit2 h1 h2 (show arr.toList = t.cs ++ u.cs by rw [ha]; unfold Rt.cs; rw [HR1.out, HK1.out, HR2.out, HK2.out]; rfl) (rx_below HRX.out h3) (rx_below HRY.out h3) HSM.out)
  unfold SqfPost at HOP
  have HV3 := hide hv3
  have HSAME := hide (fun (V W : World) (q : Rt) (h1 : Below V.heap.size V W) (hq : RxAt V q) (he : er q = altX (flK 1 [t, u])) (h3 : Below W3.heap.size W3 V) (A : Value) (hA : q.v = A) => (show Calls Try.prog 15 #[.agg #[.int .i64 v.k, .string v.ch, .bool v.nt, .slice vA v.rows.length va, .int .i64 v.mi, .int .i64 v.ma, .bool v.lz, .slice vB v.kids.length vb], A] W (fun e w' => e = .returned (.bool true) ∧ Below W.heap.size W w') from by
    have hh := same_any (rx_below HRZ.out h3) hq W h1
    rw [sameM_of (HEE.out.trans he.symm), hA, HV3.out] at hh
    exact hh))
  clear hb3 hrx3 her3 hrv3 hkv3 hv3 hbz hb2z hb1z hcx hcy hcz hrx hry hrz hbw hsm hee
  go_wp2_with fail
  go_region_held3 (fun W => Below W3.heap.size W3 W ∧ W.cell? ⟨w1.heap.size, 0, none⟩ = some (.int .i64 t.k) ∧ W.cell? ⟨w1.heap.size, 1, none⟩ = some (.string t.ch) ∧ W.cell? ⟨w1.heap.size, 2, none⟩ = some (.bool t.nt) ∧ W.cell? ⟨w1.heap.size, 3, none⟩ = some (.slice tA t.rows.length ta) ∧ W.cell? ⟨w1.heap.size, 4, none⟩ = some (.int .i64 t.mi) ∧ W.cell? ⟨w1.heap.size, 5, none⟩ = some (.int .i64 t.ma) ∧ W.cell? ⟨w1.heap.size, 6, none⟩ = some (.bool t.lz) ∧ W.cell? ⟨w1.heap.size, 7, none⟩ = some (.slice tB t.kids.length tb) ∧ W.cell? ⟨w2.heap.size, 0, none⟩ = some (.int .i64 u.k) ∧ W.cell? ⟨w2.heap.size, 1, none⟩ = some (.string u.ch) ∧ W.cell? ⟨w2.heap.size, 2, none⟩ = some (.bool u.nt) ∧ W.cell? ⟨w2.heap.size, 3, none⟩ = some (.slice uA u.rows.length ua) ∧ W.cell? ⟨w2.heap.size, 4, none⟩ = some (.int .i64 u.mi) ∧ W.cell? ⟨w2.heap.size, 5, none⟩ = some (.int .i64 u.ma) ∧ W.cell? ⟨w2.heap.size, 6, none⟩ = some (.bool u.lz) ∧ W.cell? ⟨w2.heap.size, 7, none⟩ = some (.slice uB u.kids.length ub) ∧ W.cell? ⟨w3.heap.size, 0, none⟩ = some (.int .i64 v.k) ∧ W.cell? ⟨w3.heap.size, 1, none⟩ = some (.string v.ch) ∧ W.cell? ⟨w3.heap.size, 2, none⟩ = some (.bool v.nt) ∧ W.cell? ⟨w3.heap.size, 3, none⟩ = some (.slice vA v.rows.length va) ∧ W.cell? ⟨w3.heap.size, 4, none⟩ = some (.int .i64 v.mi) ∧ W.cell? ⟨w3.heap.size, 5, none⟩ = some (.int .i64 v.ma) ∧ W.cell? ⟨w3.heap.size, 6, none⟩ = some (.bool v.lz) ∧ W.cell? ⟨w3.heap.size, 7, none⟩ = some (.slice vB v.kids.length vb))
    (first | (refine HKEEP.out _ ?_; (try go_split_ands); repeat (first | with_reducible assumption | with_reducible exact bl_refl _ | with_reducible refine bl_drew ?_ | with_reducible refine bl_alloc ?_ _)))
    (first
      | (go_at_call 19; go_split_ands; with_reducible refine (HOP.out _ _ _ _ (by repeat (first | exact bl_refl _ | refine bl_drew ?_ | refine bl_alloc ?_ _)) (by first | rfl | simp) (by repeat (first | assumption | exact bl_refl _ | refine bl_drew ?_ | refine bl_alloc ?_ _)) rfl).mono ?_; rintro e w6 ⟨q, he, hb6, hq, heq, -⟩; obtain ⟨qA, qa, qB, qb, hqr, hqk, hqv⟩ := rx_vv hq; rw [hqv] at he; subst he; have hbx6 : Below W3.heap.size W3 w6 := bl_trans (by repeat (first | assumption | exact bl_refl _ | refine bl_drew ?_ | refine bl_alloc ?_ _)) hb6)
      | (go_at_call 15; go_split_ands; with_reducible refine (HSAME.out _ _ _ (by repeat (first | exact bl_refl _ | refine bl_drew ?_ | refine bl_alloc ?_ _)) hq heq hbx6 _ hqv).mono ?_; rintro e w7 ⟨rfl, hb7⟩; have hbx7 : Below W3.heap.size W3 w7 := bl_trans (by repeat (first | assumption | exact bl_refl _ | refine bl_drew ?_ | refine bl_alloc ?_ _)) hb7)
      | (go_at_call 12; go_split_ands; with_reducible refine (awake14_any _).mono ?_; rintro e w8 ⟨rfl, hb8⟩; have hbx8 : Below W3.heap.size W3 w8 := bl_trans (by repeat (first | assumption | exact bl_refl _ | refine bl_drew ?_ | refine bl_alloc ?_ _)) hb8)
      | fail)
  all_goals
    have HB := hide (bl_trans HBW.out hbx8)
    clear hbx8
    go_wp2
    go_ret
    exact ⟨rfl, HB.out⟩

set_option maxRecDepth 100000 in
theorem lifted (os : Os) (started : os.Started) (H : Type) (enc : TypeId × Value → H) :
    ReturnsInHanded {} Try.checked os 5 .any (Rows.readAltSpec.pre6 enc Try.prog Try.f5 Rows.readAltRow.domain false) (Rows.readAltSpec.post enc Try.prog Try.f5 false true false false) := by
  refine returnsInHanded_of_change (C := Try.checked) own started (by kernel_rfl) Try.func5
    (ChangeSpec.witness6 (enc := enc) (C := Try.checked) false ⟨#[], #[.string ByteArray.empty, .string ByteArray.empty], []⟩ 8 (by kernel_rfl) (by kernel_rfl) (by kernel_rfl) (by kernel_rfl)) ?_
  intro W base args ds gs before hval0 hW hcnd _
  have hval : ∀ (j : Nat) t v, Try.f5.params[j]? = some t → args[j]? = some v → Value.okWide Try.prog W .any base t v := hval0
  have hW' := hW
  obtain ⟨p, q, hA0, hV, rfl, hfz, hnd⟩ := hW
  have hA : DataW.TrodAll enc Try.prog W 0 (fun _ => true) true Try.f5.params.toList args.toList ds p := hA0
  rw [Try.params5] at hA hval
  obtain ⟨v0, vs0, d0, ds0, p0, q0, hargs, rfl, rfl, h0, r0⟩ := trodAll_cons hA
  obtain ⟨v1, vs1, d1, ds1, p1, q1, rfl, rfl, rfl, h1, r1⟩ := trodAll_cons r0
  obtain ⟨rfl, rfl, rfl⟩ := trodAll_nil r1
  obtain rfl : args = #[v0, v1] := by cases args; simp_all
  obtain ⟨rfl, rfl⟩ := trodVars_none hV
  have k0 := h0
  have lt0 : ∀ x ∈ p0, x.block < W.heap.size := by obtain ⟨m, hm⟩ := k0; exact DataW.trod_lt m _ _ _ hm
  obtain ⟨a0, rfl, hd0, hp0, w0⟩ := open_string Try.underlying9 (hval 0 9 v0 rfl rfl) h0
  have k1 := h1
  have lt1 : ∀ x ∈ p1, x.block < W.heap.size := by obtain ⟨m, hm⟩ := k1; exact DataW.trod_lt m _ _ _ hm
  obtain ⟨a1, rfl, hd1, hp1, w1⟩ := open_string Try.underlying9 (hval 1 9 v1 rfl rfl) h1
  clear hA0 hval0
  refine (walk a0 a1 W w0 w1).mono fun e W' ⟨he, bel⟩ => ?_
  subst he
  exact ⟨_, rfl, _, _, _, [], _, [], hW', trodAll_mk1 (shut_bool Try.underlying4 _), (trodAll_cons_mk (Below.trod laidOut (by kernel_rfl) (of_decide_eq_true (by kernel_rfl)) k0 bel lt0) (trodAll_cons_mk (Below.trod laidOut (by kernel_rfl) (of_decide_eq_true (by kernel_rfl)) k1 bel lt1) trodAll_mk0)), rfl, bel.frame _, fun h => by cases h⟩

theorem over : Rows.readAltRow.holds Try.pinned (OpenSpec.ofChange Rows.readAltSpec) :=
  OpenClaim.holds_of_wide 5 Try.f5 rfl rfl rfl rfl rfl rfl rfl ⟨rfl, rfl, rfl, rfl, rfl⟩ rfl rfl rfl rfl rfl (by kernel_rfl) Try.func5 (by kernel_rfl)
    (of_decide_eq_true (by kernel_rfl)) (by unfold Func.isWrapper; first | (rw [if_pos (by decide +kernel)]; kernel_rfl) | (rw [if_neg (by decide +kernel)]; exact ⟨rfl, rfl⟩))
    (fun os started H enc _ => lifted os started H enc)

theorem proved : Rows.ReadAltSaid := over
end Go.Proofs.Ytcgphknnnjpbkaa.readAlt
