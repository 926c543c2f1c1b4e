/- What the two trees of the layer's awake take; At and All of them. No condition. And 2 texts more. -/
import Derived.Test.YtcnliipkfccohaaGreatT166
import Derived.Test.YtcnliipkfccohaaGreatT163
namespace Go.Proofs.YtcnliipkfccohaaGreat
end Go.Proofs.YtcnliipkfccohaaGreat
namespace Go.Proofs.YtcnliipkfccohaaGreat.SetM
end Go.Proofs.YtcnliipkfccohaaGreat.SetM
namespace Go.Proofs.YtcnliipkfccohaaGreat.SpanM
end Go.Proofs.YtcnliipkfccohaaGreat.SpanM
section
namespace Go.Proofs.YtcnliipkfccohaaGreat
open SetM SpanM
open Go.ChangeShapes Go.WideShapes Go.ChangeAt Go.RowKit
set_option maxRecDepth 100000
set_option linter.unusedVariables false
theorem er_fld {t : Rt} {k : Int} {c : ByteArray} {nt : Bool} {R : List Rw} {mi ma : Int} {lz : Bool} {l : List Rt} (h : er t = .mk k c nt (.slice none 0 0) R mi ma lz (.slice none 0 0) l) : t.k = k ∧ t.ch = c ∧ t.mi = mi ∧ t.ma = ma ∧ t.lz = lz ∧ t.kids.map er = l := by
  rw [er_eq] at h
  injection h with h1 h2 h3 h4 h5 h6 h7 h8 h9 h10
  exact ⟨h1, h2, h6, h7, h8, h10⟩
theorem er_two {l : List Rt} {a b : Rt} (h : l.map er = [a, b]) : ∃ u v, l = [u, v] ∧ er u = a ∧ er v = b := by
  match l, h with
  | [u, v], h => injection h with h1 h2; injection h2 with h2 _; exact ⟨u, v, rfl, h1, h2⟩
theorem er_sng {l : List Rt} {a : Rt} (h : l.map er = [a]) : ∃ u, l = [u] ∧ er u = a := by
  match l, h with
  | [u], h => injection h with h1 _; exact ⟨u, rfl, h1⟩
theorem er_nil {l : List Rt} (h : l.map er = []) : l = [] := by
  match l, h with
  | [], _ => rfl
theorem chr_fld {t : Rt} {c : ByteArray} (h : er t = chX c) : t.k = 2 ∧ t.ch = c ∧ gM t = 0 := by
  obtain ⟨h1, h2, _, _, _, h6⟩ := er_fld h
  refine ⟨h1, h2, ?_⟩
  rw [gM_eq, h1, er_nil h6]; rfl
theorem tk_chr {s : ByteArray} {ps : List Nat} {v : Rt} {c : ByteArray} (hk : v.k = 2) (hc : v.ch = c) (i : Nat) : tkG s ps false v i = if i + 1 < ps.length then (if chG s ps i = c then some 1 else none) else none := by
  unfold tkG
  rw [if_neg (by omega), if_neg (by omega), if_neg (by omega), if_neg (by omega)]
  unfold accB
  rw [if_pos hk, hc]
  simp
theorem nb_chr {v : Rt} (hk : v.k = 2) : v.k ≠ 0 ∧ v.k ≠ 1 ∧ v.k ≠ 7 ∧ v.k ≠ 5 ∧ v.k ≠ 6 := by omega
theorem ps_aab : psS ⟨#[97, 97, 98]⟩ = [0, 1, 2, 3] := by decide
theorem ps_ab : psS ⟨#[97, 98]⟩ = [0, 1, 2] := by decide
theorem on_aab {t : Rt} (h : er t = tA) : On (ofG [0, 1, 2, 3]) (tkG ⟨#[97, 97, 98]⟩ [0, 1, 2, 3] false) 100 [.hold t 0] 0 (List.replicate (gM t) (-1, -1)) (.found 3 [] 95) := by
  obtain ⟨t1, _, _, _, _, t6⟩ := er_fld h
  obtain ⟨u, v, hk, hu, hv⟩ := er_two t6
  obtain ⟨u1, _, u3, u4, u5, u6⟩ := er_fld hu
  obtain ⟨y, hy, hyc⟩ := er_sng u6
  obtain ⟨y1, y2, y3⟩ := chr_fld hyc
  obtain ⟨v1, v2, v3⟩ := chr_fld hv
  have hgu : gM u = 0 := by rw [gM_eq, u1, hy]; simp [gL, y3]
  have hg : gM t = 0 := by rw [gM_eq, t1, hk]; simp [gL, hgu, v3]
  rw [hg]
  have a0 : tkG ⟨#[97, 97, 98]⟩ [0, 1, 2, 3] false y 0 = some 1 := by rw [tk_chr y1 y2]; decide
  have a1 : tkG ⟨#[97, 97, 98]⟩ [0, 1, 2, 3] false y 1 = some 1 := by rw [tk_chr y1 y2]; decide
  have b0 : tkG ⟨#[97, 97, 98]⟩ [0, 1, 2, 3] false v 0 = none := by rw [tk_chr v1 v2]; decide
  have b1 : tkG ⟨#[97, 97, 98]⟩ [0, 1, 2, 3] false v 1 = none := by rw [tk_chr v1 v2]; decide
  have b2 : tkG ⟨#[97, 97, 98]⟩ [0, 1, 2, 3] false v 2 = some 1 := by rw [tk_chr v1 v2]; decide
  refine .seq _ _ _ _ _ _ _ t1 ?_
  rw [hk]
  show On _ _ 100 [.hold u 0, .hold v (0 + gM u)] 0 [] _
  refine .rep _ _ _ _ _ _ _ u1 ?_
  refine .lazyN _ 99 _ _ _ _ _ _ _ (by omega) (by omega) u5 (.no _ _ _ _ _ _ (nb_chr v1) b0) ?_
  refine .mk _ _ y _ _ _ _ _ _ hy ?_
  refine .yes _ _ _ _ _ _ 1 _ (nb_chr y1) a0 ?_
  refine .again _ _ _ _ _ _ _ _ _ (by omega) ?_
  refine .lazyN _ 97 _ _ _ _ _ _ _ (by omega) (by omega) u5 (.no _ _ _ _ _ _ (nb_chr v1) b1) ?_
  refine .mk _ _ y _ _ _ _ _ _ hy ?_
  refine .yes _ _ _ _ _ _ 1 _ (nb_chr y1) a1 ?_
  refine .again _ _ _ _ _ _ _ _ _ (by omega) ?_
  refine .lazyD _ _ _ _ _ _ _ _ (by omega) (by omega) u5 ?_ (by intro f' h; cases h)
  exact .yes _ _ _ _ _ _ 1 _ (nb_chr v1) b2 (.nil _ _ _)
theorem al_ab {t : Rt} (h : er t = tB) : Al (ofG [0, 1, 2]) (QG (ofG [0, 1, 2]) (tkG ⟨#[97, 98]⟩ [0, 1, 2] false) t (gM t)) 3 100 0 (some ([((0, 1), [(0, 1)]), ((1, 2), [(-1, -1)])], 92)) := by
  obtain ⟨t1, _, _, _, _, t6⟩ := er_fld h
  obtain ⟨u, v, hk, hu, hv⟩ := er_two t6
  obtain ⟨u1, _, u3, u4, u5, u6⟩ := er_fld hu
  obtain ⟨y, hy, hyc⟩ := er_sng u6
  obtain ⟨y1, y2, y3⟩ := chr_fld hyc
  obtain ⟨v1, v2, v3⟩ := chr_fld hv
  have hgu : gM u = 1 := by rw [gM_eq, u1, hy]; simp [gL, y3]
  have hg : gM t = 1 := by rw [gM_eq, t1, hk]; simp [gL, hgu, v3]
  rw [hg]
  have a0 : tkG ⟨#[97, 98]⟩ [0, 1, 2] false y 0 = some 1 := by rw [tk_chr y1 y2]; decide
  have a1 : tkG ⟨#[97, 98]⟩ [0, 1, 2] false y 1 = none := by rw [tk_chr y1 y2]; decide
  have a2 : tkG ⟨#[97, 98]⟩ [0, 1, 2] false y 2 = none := by rw [tk_chr y1 y2]; decide
  have b1 : tkG ⟨#[97, 98]⟩ [0, 1, 2] false v 1 = some 1 := by rw [tk_chr v1 v2]; decide
  have b2 : tkG ⟨#[97, 98]⟩ [0, 1, 2] false v 2 = none := by rw [tk_chr v1 v2]; decide
  have q0 : QG (ofG [0, 1, 2]) (tkG ⟨#[97, 98]⟩ [0, 1, 2] false) t 1 100 0 (.found 1 [(0, 1)] 98) := by
    refine .alt _ _ _ _ _ _ _ t1 ?_
    rw [hk]
    refine .done _ _ _ _ _ _ _ _ ?_ (by intro f' h; cases h)
    refine .group _ _ y _ _ _ _ _ u1 hy ?_
    refine .yes _ _ _ _ _ _ 1 _ (nb_chr y1) a0 ?_
    exact .ended _ _ _ _ _ _ _ (.nil _ _ _)
  have q1 : QG (ofG [0, 1, 2]) (tkG ⟨#[97, 98]⟩ [0, 1, 2] false) t 1 98 1 (.found 2 [(-1, -1)] 95) := by
    refine .alt _ _ _ _ _ _ _ t1 ?_
    rw [hk]
    refine .next _ 96 _ _ _ _ _ _ _ ?_ ?_
    · refine .group _ _ y _ _ _ _ _ u1 hy ?_
      exact .no _ _ _ _ _ _ (nb_chr y1) a1
    · refine .done _ _ _ _ _ _ _ _ ?_ (by intro f' h; cases h)
      exact .yes _ _ _ _ _ _ 1 _ (nb_chr v1) b1 (.nil _ _ _)
  have q2 : QG (ofG [0, 1, 2]) (tkG ⟨#[97, 98]⟩ [0, 1, 2] false) t 1 95 2 (.fail 92) := by
    refine .alt _ _ _ _ _ _ _ t1 ?_
    rw [hk]
    refine .next _ 93 _ _ _ _ _ _ _ ?_ ?_
    · refine .group _ _ y _ _ _ _ _ u1 hy ?_
      exact .no _ _ _ _ _ _ (nb_chr y1) a2
    · refine .next _ 92 _ _ _ _ _ _ _ ?_ (.nil _ _ _ _ _)
      exact .no _ _ _ _ _ _ (nb_chr v1) b2
  have l2 := Al.none (of := ofG [0, 1, 2]) (Q := QG (ofG [0, 1, 2]) (tkG ⟨#[97, 98]⟩ [0, 1, 2] false) t 1) (N := 3) 95 2 0 92 (by decide) (.miss 95 92 2 0 _ (by decide) q2 (.none 92 3 (by decide)))
  have l1 := Al.more (of := ofG [0, 1, 2]) (Q := QG (ofG [0, 1, 2]) (tkG ⟨#[97, 98]⟩ [0, 1, 2] false) t 1) (N := 3) 98 1 1 2 [(-1, -1)] 95 _ (by decide) (.hit 98 1 _ (by decide) q1 (by intro f' h; cases h)) l2
  exact Al.more (of := ofG [0, 1, 2]) (Q := QG (ofG [0, 1, 2]) (tkG ⟨#[97, 98]⟩ [0, 1, 2] false) t 1) (N := 3) 100 0 0 1 [(0, 1)] 98 _ (by decide) (.hit 100 0 _ (by decide) q0 (by intro f' h; cases h)) l1
theorem cn_a {t : Rt} (h : er t = tA) : cnB t 16 512 = true ∧ sM t ≤ 1000 := by
  rw [cnB_er h, ← sM_er, h]; constructor <;> simp only [cnB, tA, tRep, kdX, chX, pM, pL, dM, dL, okM, okL, sM, sL] <;> decide
theorem cn_b {t : Rt} (h : er t = tB) : cnB t 16 512 = true ∧ sM t ≤ 1000 := by
  rw [cnB_er h, ← sM_er, h]; constructor <;> simp only [cnB, tB, tGrp, kdX, chX, pM, pL, dM, dL, okM, okL, sM, sL] <;> decide
theorem aw_at {t : Rt} (h : er t = tA) {w w' : World} {e : Ending} (hp : AtPost t false ⟨#[97, 97, 98]⟩ 0 100 w e w') : ∃ A c, e = .returned (.tuple #[.agg #[.int .i64 0, .int .i64 3, .slice A 0 c], .int .i64 95, .bool true, .int .i64 0]) ∧ Below w.heap.size w w' := by
  unfold AtPost at hp
  rw [if_neg (by rw [(cn_a h).1]; decide), ps_aab, if_pos (by decide)] at hp
  obtain ⟨i, r, ⟨hi, h0⟩, ho, hp⟩ := hp
  obtain rfl : i = 0 := by
    match i, hi, h0 with
    | 0, _, _ => rfl
    | 1, _, h0 => simp at h0
    | 2, _, h0 => simp at h0
    | 3, _, h0 => simp at h0
  obtain rfl := on_det _ _ ho (on_aab h)
  obtain ⟨v', rfl, hb, ho⟩ := hp
  obtain ⟨A, c, rfl⟩ := own_slice ho
  exact ⟨A, c, rfl, hb⟩
theorem aw_all {t : Rt} (h : er t = tB) {w w' : World} {e : Ending} (hp : AgPost t false ⟨#[97, 98]⟩ 100 w e w') : ∃ g c g1 c1, e = .returned (.tuple #[.slice (some ⟨g, 0, none⟩) 2 c, .int .i64 92, .int .i64 0]) ∧ Below w.heap.size w w' ∧ w'.cell? ⟨g, 5, none⟩ = some (.slice (some ⟨g1, 0, none⟩) 1 c1) ∧ w'.cell? ⟨g1, 0, none⟩ = some (.int .i64 (-1)) := by
  unfold AgPost at hp
  rw [if_neg (by rw [(cn_b h).1]; decide), ps_ab, if_pos (by decide)] at hp
  obtain ⟨i, o, ⟨hi, h0⟩, ho, hp⟩ := hp
  obtain rfl : i = 0 := by
    match i, hi, h0 with
    | 0, _, _ => rfl
    | 1, _, h0 => simp at h0
    | 2, _, h0 => simp at h0
  obtain rfl := al_det (Q := QG (ofG [0, 1, 2]) (tkG ⟨#[97, 98]⟩ [0, 1, 2] false) t (gM t)) (fun f i r r' h1 h2 => on_det _ _ h1 h2) ho (al_ab h)
  obtain ⟨v, A, rfl, hb, ho, hm⟩ := hp
  match A, hm with
  | [a0, a1], ⟨_, _, _, _, _, ⟨hr, _⟩, _⟩ =>
    rcases own_form ho with ⟨_, h1, _⟩ | ⟨g, c, rfl, _, _, _, _, hc⟩
    · cases h1
    rcases own_form hr with ⟨_, h1, _⟩ | ⟨g1, c1, hv, _, _, _, _, hc1⟩
    · cases h1
    exact ⟨g, c, g1, c1, rfl, hb, by rw [hc 5 _ rfl]; exact congrArg some hv, hc1 0 _ rfl⟩
end Go.Proofs.YtcnliipkfccohaaGreat
end
section
namespace Go.Proofs.YtcnliipkfccohaaGreat
open Go.ChangeShapes Go.WideShapes Go.ChangeAt Go.RowKit
open SetM SpanM
attribute [local go_sem ↓] Go.wp_at_zero Go.wp_at_succ
set_option maxRecDepth 100000
set_option linter.unusedVariables false
set_option maxHeartbeats 16000000 in
theorem awake16_any (w : World) : Calls Tryz.prog 15 #[] w fun e w' => e = .returned (.bool true) ∧ Below w.heap.size w w' := by
  have HR1 := hide (fun W => read_a W)
  have HR2 := hide (fun W => read_b W)
  go_enter Tryz.func15, Tryz.ntmps15
  go_wp2_with fail
  refine (HR1.out _).mono ?_
  rintro e w1 ⟨t, rfl, hb1, hrx, her⟩
  obtain ⟨tA, tc, htrv⟩ := rwat_len hrx.rows
  obtain ⟨tB, td, htkv⟩ := ksat_len hrx.ks
  have HTV := hide (show t.v = .agg #[.int .i64 t.k, .string t.ch, .bool t.nt, .slice tA t.rows.length tc, .int .i64 t.mi, .int .i64 t.ma, .bool t.lz, .slice tB t.kids.length td] by unfold Rt.v Rt.cs; rw [htrv, htkv])
  have HAT := hide (fun W (hb : Below w1.heap.size w1 W) => at_any (rx_below hrx hb) (cn_a her).2 false ⟨#[97, 97, 98]⟩ (by decide) 0 100)
  rw [HTV.out] at HAT
  rw [HTV.out]
  have HER := hide her
  have K1 := hide (show Cl (w1.alloc (.cells #[.int .i64 t.k, .string t.ch, .bool t.nt, .slice tA t.rows.length tc, .int .i64 t.mi, .int .i64 t.ma, .bool t.lz, .slice tB t.kids.length td] 25)) w1.heap.size [.int .i64 t.k, .string t.ch, .bool t.nt, .slice tA t.rows.length tc, .int .i64 t.mi, .int .i64 t.ma, .bool t.lz, .slice tB t.kids.length td] from cl_alloc w1 [.int .i64 t.k, .string t.ch, .bool t.nt, .slice tA t.rows.length tc, .int .i64 t.mi, .int .i64 t.ma, .bool t.lz, .slice tB t.kids.length td] _)
  have HB1 := hide (bl_alloc hb1 (.cells #[.int .i64 t.k, .string t.ch, .bool t.nt, .slice tA t.rows.length tc, .int .i64 t.mi, .int .i64 t.ma, .bool t.lz, .slice tB t.kids.length td] 25))
  clear hrx her htrv htkv hb1
  obtain ⟨k0, k1, k2, k3, k4, k5, k6, k7⟩ := K1.out.eight
  go_wp2_with fail
  refine (HAT.out _ (bl_alloc (bl_refl w1) _)).mono ?_
  clear k0 k1 k2 k3 k4 k5 k6 k7
  rintro e w2 hp
  obtain ⟨A, c, rfl, hb2⟩ := aw_at HER.out hp
  have HB2 := hide (bl_alloc (bl_trans HB1.out hb2) (.cells #[.int .i64 0, .int .i64 3, .slice A 0 c] 32))
  have m0 : (w2.alloc (.cells #[.int .i64 0, .int .i64 3, .slice A 0 c] 32)).cell? ⟨w2.heap.size, 0, none⟩ = some (.int .i64 0) := cells_lit w2 _ _ 0 _ rfl
  have m1 : (w2.alloc (.cells #[.int .i64 0, .int .i64 3, .slice A 0 c] 32)).cell? ⟨w2.heap.size, 1, none⟩ = some (.int .i64 3) := cells_lit w2 _ _ 1 _ rfl
  have M0 := hide m0
  have M1 := hide m1
  clear hp hb2 m0 m1 HAT
  go_wp2_with fail
  refine (HR2.out _).mono ?_
  rintro e w3 ⟨u, rfl, hb3, hrx, her⟩
  obtain ⟨uA, uc, hurv⟩ := rwat_len hrx.rows
  obtain ⟨uB, ud, hukv⟩ := ksat_len hrx.ks
  have HUV := hide (show u.v = .agg #[.int .i64 u.k, .string u.ch, .bool u.nt, .slice uA u.rows.length uc, .int .i64 u.mi, .int .i64 u.ma, .bool u.lz, .slice uB u.kids.length ud] by unfold Rt.v Rt.cs; rw [hurv, hukv])
  have HAL := hide (fun W (hb : Below w3.heap.size w3 W) => all_any (rx_below hrx hb) (cn_b her).2 false ⟨#[97, 98]⟩ (by decide) 100)
  rw [HUV.out] at HAL
  rw [HUV.out]
  have HER2 := hide her
  have K3 := hide (show Cl (w3.alloc (.cells #[.int .i64 u.k, .string u.ch, .bool u.nt, .slice uA u.rows.length uc, .int .i64 u.mi, .int .i64 u.ma, .bool u.lz, .slice uB u.kids.length ud] 25)) w3.heap.size [.int .i64 u.k, .string u.ch, .bool u.nt, .slice uA u.rows.length uc, .int .i64 u.mi, .int .i64 u.ma, .bool u.lz, .slice uB u.kids.length ud] from cl_alloc w3 [.int .i64 u.k, .string u.ch, .bool u.nt, .slice uA u.rows.length uc, .int .i64 u.mi, .int .i64 u.ma, .bool u.lz, .slice uB u.kids.length ud] _)
  have HB3 := hide (bl_alloc (bl_trans HB2.out hb3) (.cells #[.int .i64 u.k, .string u.ch, .bool u.nt, .slice uA u.rows.length uc, .int .i64 u.mi, .int .i64 u.ma, .bool u.lz, .slice uB u.kids.length ud] 25))
  have HN3 := hide (bl_alloc hb3 (.cells #[.int .i64 u.k, .string u.ch, .bool u.nt, .slice uA u.rows.length uc, .int .i64 u.mi, .int .i64 u.ma, .bool u.lz, .slice uB u.kids.length ud] 25))
  clear hrx her hurv hukv hb3
  obtain ⟨k0, k1, k2, k3, k4, k5, k6, k7⟩ := K3.out.eight
  go_wp2_with fail
  refine (HAL.out _ (bl_alloc (bl_refl w3) _)).mono ?_
  clear k0 k1 k2 k3 k4 k5 k6 k7
  rintro e w4 hp
  obtain ⟨g, c4, g1, c1, rfl, hb4, x5, x0⟩ := aw_all HER2.out hp
  have HB4 := hide (bl_trans HB3.out hb4)
  have m0 := cell_later (bl_trans HN3.out hb4) M0.out
  have m1 := cell_later (bl_trans HN3.out hb4) M1.out
  clear hp hb4
  go_wp2
  go_ret
  exact ⟨rfl, HB4.out⟩
end Go.Proofs.YtcnliipkfccohaaGreat
end
section
namespace Go.Proofs.YtcnliipkfccohaaGreat
open Go.ChangeShapes Go.WideShapes Go.ChangeAt Go.RowKit
open SetM SpanM
attribute [local go_sem ↓] Go.wp_at_zero Go.wp_at_succ
set_option maxRecDepth 100000
set_option linter.unusedVariables false
theorem neq_s4 (a1 a2 b1 b2 : Int) (w : World) : (binOp .neq 29 (.agg #[.int .i64 a1, .int .i64 a2]) (.agg #[.int .i64 b1, .int .i64 b2])).run Tryz.prog w = .ok (.bool (!decide ((a1, a2) = (b1, b2)))) w := by
  go_simp
  by_cases h1 : a1 = b1 <;> by_cases h2 : a2 = b2 <;> simp [h1, h2]
theorem eql_s4 (a1 a2 b1 b2 : Int) (w : World) : (binOp .eql 29 (.agg #[.int .i64 a1, .int .i64 a2]) (.agg #[.int .i64 b1, .int .i64 b2])).run Tryz.prog w = .ok (.bool (decide ((a1, a2) = (b1, b2)))) w := by
  go_simp
  by_cases h1 : a1 = b1 <;> by_cases h2 : a2 = b2 <;> simp [h1, h2]
theorem eqgn_s4 (x y : Operand) (a1 a2 b1 b2 : Int) (w : World) : (eqGuard .neq 29 x y (.agg #[.int .i64 a1, .int .i64 a2]) (.agg #[.int .i64 b1, .int .i64 b2])).run Tryz.prog w = .ok () w :=
  run_eqGuard_agg _ _ _ _ _ _ _ (by kernel_rfl)
theorem eqge_s4 (x y : Operand) (a1 a2 b1 b2 : Int) (w : World) : (eqGuard .eql 29 x y (.agg #[.int .i64 a1, .int .i64 a2]) (.agg #[.int .i64 b1, .int .i64 b2])).run Tryz.prog w = .ok () w :=
  run_eqGuard_agg _ _ _ _ _ _ _ (by kernel_rfl)
structure An where
  a : Int
  b : Int
  p : List Sp
  f : Int
  ok : Bool
  n : Int
def anS (of : Nat → Int) (st : Nat) : Ro → An
  | .dry => ⟨0, 0, [], 0, false, 9⟩
  | .fail f => ⟨0, 0, [], f, false, 0⟩
  | .found i p f => ⟨of st, of i, p, f, true, 0⟩
def AnF (q : An) (w : World) (e : Ending) (w' : World) : Prop := ∃ A c, e = .returned (.tuple #[.agg #[.int .i64 q.a, .int .i64 q.b, .slice A q.p.length c], .int .i64 q.f, .bool q.ok, .int .i64 q.n]) ∧ Below w.heap.size w w' ∧ SpAt w' (.slice A q.p.length c) q.p
theorem an_form {of : Nat → Int} {st : Nat} {r : Ro} {w w' : World} {e : Ending} (h : AnPost of st r w e w') : AnF (anS of st r) w e w' := by
  cases r with
  | dry => exact ⟨none, 0, h.1, h.2, .inl ⟨rfl, rfl⟩⟩
  | fail f => exact ⟨none, 0, h.1, h.2, .inl ⟨rfl, rfl⟩⟩
  | found i p f =>
    obtain ⟨v', rfl, hb, ho⟩ := h
    obtain ⟨A, c, rfl⟩ := own_slice ho
    exact ⟨A, c, rfl, hb, own_spat ho⟩
def fuC (fuel : Int) : Nat := (min (max fuel 0) 20000).toNat
def AtQ (t : Rt) (fold : Bool) (s : ByteArray) (at_ : Int) (F : Nat) (q : An) : Prop :=
  if cnB t 16 512 = false then q = ⟨0, 0, [], 0, false, 10⟩
  else if at_ ∈ (psS s).map (fun (n : Nat) => (n : Int)) then ∃ (i : Nat) (r : Ro), (∃ h : i < (psS s).length, (((psS s)[i] : Nat) : Int) = at_) ∧ On (ofG (psS s)) (tkG s (psS s) fold) F [.hold t 0] i (List.replicate (gM t) (-1, -1)) r ∧ q = anS (ofG (psS s)) i r
  else q = ⟨0, 0, [], 0, false, 3⟩
def FiQ (t : Rt) (fold : Bool) (s : ByteArray) (at_ : Int) (F : Nat) (q : An) : Prop :=
  if cnB t 16 512 = false then q = ⟨0, 0, [], 0, false, 10⟩
  else if at_ ∈ (psS s).map (fun (n : Nat) => (n : Int)) then ∃ (i st : Nat) (r : Ro), (∃ h : i < (psS s).length, (((psS s)[i] : Nat) : Int) = at_) ∧ Fd (QG (ofG (psS s)) (tkG s (psS s) fold) t (gM t)) (psS s).length F i st r ∧ q = anS (ofG (psS s)) st r
  else q = ⟨0, 0, [], 0, false, 3⟩
theorem at_form {t : Rt} {fold : Bool} {s : ByteArray} {at_ fuel : Int} {w w' : World} {e : Ending} (h : AtPost t fold s at_ fuel w e w') : ∃ q, AtQ t fold s at_ (fuC fuel) q ∧ AnF q w e w' := by
  unfold AtPost at h
  unfold AtQ
  split at h
  · rename_i h1
    exact ⟨⟨0, 0, [], 0, false, 10⟩, by rw [if_pos h1], none, 0, h.1, h.2, .inl ⟨rfl, rfl⟩⟩
  · rename_i h1
    split at h
    · rename_i h2
      obtain ⟨i, r, hi, ho, hp⟩ := h
      exact ⟨_, by rw [if_neg h1, if_pos h2]; exact ⟨i, r, hi, ho, rfl⟩, an_form hp⟩
    · rename_i h2
      exact ⟨⟨0, 0, [], 0, false, 3⟩, by rw [if_neg h1, if_neg h2], none, 0, h.1, h.2, .inl ⟨rfl, rfl⟩⟩
theorem fi_form {t : Rt} {fold : Bool} {s : ByteArray} {at_ fuel : Int} {w w' : World} {e : Ending} (h : FiPost t fold s at_ fuel w e w') : ∃ q, FiQ t fold s at_ (fuC fuel) q ∧ AnF q w e w' := by
  unfold FiPost at h
  unfold FiQ
  split at h
  · rename_i h1
    exact ⟨⟨0, 0, [], 0, false, 10⟩, by rw [if_pos h1], none, 0, h.1, h.2, .inl ⟨rfl, rfl⟩⟩
  · rename_i h1
    split at h
    · rename_i h2
      obtain ⟨i, st, r, hi, ho, hp⟩ := h
      exact ⟨_, by rw [if_neg h1, if_pos h2]; exact ⟨i, st, r, hi, ho, rfl⟩, an_form hp⟩
    · rename_i h2
      exact ⟨⟨0, 0, [], 0, false, 3⟩, by rw [if_neg h1, if_neg h2], none, 0, h.1, h.2, .inl ⟨rfl, rfl⟩⟩
theorem ps_one {s : ByteArray} {i j : Nat} {at_ : Int} (h : ∃ h : i < (psS s).length, (((psS s)[i] : Nat) : Int) = at_) (g : ∃ h : j < (psS s).length, (((psS s)[j] : Nat) : Int) = at_) : i = j := by
  obtain ⟨hi, ei⟩ := h
  obtain ⟨hj, ej⟩ := g
  have hp := plGo_strict s.data.toList 0
  rw [List.pairwise_iff_getElem] at hp
  rcases Nat.lt_trichotomy i j with h1 | h1 | h1
  · have : (psS s)[i] < (psS s)[j] := hp i j hi hj h1
    omega
  · exact h1
  · have : (psS s)[j] < (psS s)[i] := hp j i hj hi h1
    omega
theorem atq_det {t : Rt} {fold : Bool} {s : ByteArray} {at_ : Int} {F : Nat} {q q' : An} (h : AtQ t fold s at_ F q) (g : AtQ t fold s at_ F q') : q = q' := by
  unfold AtQ at h g
  split at h
  · rename_i h1; rw [if_pos h1] at g; exact h.trans g.symm
  · rename_i h1
    rw [if_neg h1] at g
    split at h
    · rename_i h2
      rw [if_pos h2] at g
      obtain ⟨i, r, hi, ho, rfl⟩ := h
      obtain ⟨j, r', hj, ho', rfl⟩ := g
      obtain rfl := ps_one hi hj
      obtain rfl := on_det _ _ ho ho'
      rfl
    · rename_i h2; rw [if_neg h2] at g; exact h.trans g.symm
theorem fiq_det {t : Rt} {fold : Bool} {s : ByteArray} {at_ : Int} {F : Nat} {q q' : An} (h : FiQ t fold s at_ F q) (g : FiQ t fold s at_ F q') : q = q' := by
  unfold FiQ at h g
  split at h
  · rename_i h1; rw [if_pos h1] at g; exact h.trans g.symm
  · rename_i h1
    rw [if_neg h1] at g
    split at h
    · rename_i h2
      rw [if_pos h2] at g
      obtain ⟨i, st, r, hi, ho, rfl⟩ := h
      obtain ⟨j, st', r', hj, ho', rfl⟩ := g
      obtain rfl := ps_one hi hj
      obtain ⟨rfl, rfl⟩ := fd_det (Q := QG (ofG (psS s)) (tkG s (psS s) fold) t (gM t)) (fun f i r r' h1 h2 => on_det _ _ h1 h2) ho ho'
      rfl
    · rename_i h2; rw [if_neg h2] at g; exact h.trans g.symm
theorem tk_in {s : ByteArray} {ps : List Nat} {fold : Bool} (x : Rt) (i n : Nat) (h : tkG s ps fold x i = some n) (hi : i ≤ ps.length - 1) : i + n ≤ ps.length - 1 := by
  unfold tkG at h
  split at h
  · split at h <;> first | (injection h with h; omega) | cases h
  · split at h
    · split at h <;> first | (injection h with h; omega) | cases h
    · split at h
      · split at h <;> first | (injection h with h; omega) | cases h
      · split at h
        · split at h <;> first | (injection h with h; omega) | cases h
        · split at h
          · split at h <;> first | (injection h with h; omega) | cases h
          · cases h
theorem on_span {s : ByteArray} {ps : List Nat} {fold : Bool} {t : Rt} {F i n j f : Nat} {q : List (Int × Int)} (h : On (ofG ps) (tkG s ps fold) F [.hold t 0] i (List.replicate n (-1, -1)) (.found j q f)) (hi : i < ps.length) : i ≤ j ∧ j < ps.length ∧ q.length = n ∧ ∀ s ∈ q, Pt (ofG ps) i j s := by
  have := on_in (ofG ps) (tkG s ps fold) (ps.length - 1) i h tk_in ⟨Nat.le_refl _, by omega, fun g b hm => (by cases hm with | tail _ hm => cases hm), fun s hs => .inl (List.eq_of_mem_replicate hs)⟩ j q f rfl
  rw [List.length_replicate] at this
  exact ⟨this.1, by omega, this.2.2.1, this.2.2.2⟩
theorem fd_hit {Q : Nat → Nat → Ro → Prop} {N f i st : Nat} {r : Ro} (h : Fd Q N f i st r) : (∃ f', r = .fail f') ∨ ∃ f', Q f' st r ∧ i ≤ st ∧ st < N := by
  induction h with
  | none f i h => exact .inl ⟨_, rfl⟩
  | hit f i r h hq hr => exact .inr ⟨f, hq, Nat.le_refl _, h⟩
  | miss f f' i st r h hq h2 ih =>
    rcases ih with ih | ⟨g, h3, h4, h5⟩
    · exact .inl ih
    · exact .inr ⟨g, h3, by omega, h5⟩
theorem atq_len {t : Rt} {fold : Bool} {s : ByteArray} {at_ : Int} {F : Nat} {q : An} (h : AtQ t fold s at_ F q) : q.p.length ≤ gM t := by
  unfold AtQ at h
  split at h
  · rw [h]; exact Nat.zero_le _
  · split at h
    · obtain ⟨i, r, ⟨hi, _⟩, ho, rfl⟩ := h
      cases r with
      | dry => exact Nat.zero_le _
      | fail f => exact Nat.zero_le _
      | found j p f => exact Nat.le_of_eq (on_span ho hi).2.2.1
    · rw [h]; exact Nat.zero_le _
theorem fiq_len {t : Rt} {fold : Bool} {s : ByteArray} {at_ : Int} {F : Nat} {q : An} (h : FiQ t fold s at_ F q) : q.p.length ≤ gM t := by
  unfold FiQ at h
  split at h
  · rw [h]; exact Nat.zero_le _
  · split at h
    · obtain ⟨i, st, r, ⟨hi, _⟩, ho, rfl⟩ := h
      cases r with
      | dry => exact Nat.zero_le _
      | fail f => exact Nat.zero_le _
      | found j p f =>
        rcases fd_hit ho with ⟨f', h1⟩ | ⟨f', h1, h2, h3⟩
        · cases h1
        · exact Nat.le_of_eq (on_span h1 h3).2.2.1
    · rw [h]; exact Nat.zero_le _
section
theorem tk_eq_succ {α : Type} (l m : List α) (k : Nat) (h : k < l.length) (g : k < m.length) (e : l.take k = m.take k) (e2 : l[k] = m[k]) : l.take (k + 1) = m.take (k + 1) := by
  rw [List.take_succ_eq_append_getElem h, List.take_succ_eq_append_getElem g, e, e2]
theorem neq_sp (a b : Sp) (w : World) : (binOp .neq 29 (.agg #[.int .i64 a.1, .int .i64 a.2]) (.agg #[.int .i64 b.1, .int .i64 b.2])).run Tryz.prog w = .ok (.bool (!decide (a = b))) w := by
  obtain ⟨a1, a2⟩ := a
  obtain ⟨b1, b2⟩ := b
  show (binOp .neq 29 (.agg #[.int .i64 a1, .int .i64 a2]) (.agg #[.int .i64 b1, .int .i64 b2])).run Tryz.prog w = .ok (.bool (!decide ((a1, a2) = (b1, b2)))) w
  go_simp
  by_cases h1 : a1 = b1 <;> by_cases h2 : a2 = b2 <;> simp [h1, h2]
theorem eqgn_sp (x y : Operand) (a b : Sp) (w : World) : (eqGuard .neq 29 x y (.agg #[.int .i64 a.1, .int .i64 a.2]) (.agg #[.int .i64 b.1, .int .i64 b.2])).run Tryz.prog w = .ok () w :=
  run_eqGuard_agg _ _ _ _ _ _ _ (by kernel_rfl)
attribute [local go_sem] eqgn_sp
attribute [local go_sem ↓] neq_sp
set_option maxHeartbeats 1000000 in
theorem spans_any (v u : Value) (l k : List Sp) (w : World) (h : SpAt w v l) (g : SpAt w u k) (hl : l.length ≤ 1000) (hk : k.length ≤ 1000) :
    Calls Tryz.prog 26 #[v, u] w fun e w' => e = .returned (.bool (decide (l = k))) ∧ ∃ n, w' = w.drewN n := by
  obtain ⟨a, c, rfl⟩ := spat_len h
  obtain ⟨b, d, rfl⟩ := spat_len g
  by_cases hlen : l.length = k.length
  · have e1 : ((l.length : Int) != (k.length : Int)) = false := by simp [hlen]
    by_cases hp : 0 < l.length
    · obtain ⟨b1, o1, c1, hv1, hc1, hm1, _, hcell1⟩ := spat_some h hp
      obtain ⟨b2, o2, c2, hv2, hc2, hm2, _, hcell2⟩ := spat_some g (by omega)
      injection hv1 with hv1 _ hv1c
      injection hv2 with hv2 _ hv2c
      subst hv1 hv2 hv1c hv2c
      unfold maxLen at hm1 hm2
      clear h g hp
      obtain ⟨r, hr⟩ : ∃ r, decide (l = k) = r := ⟨_, rfl⟩
      rw [hr]
      have HRR := hide hr.symm
      clear hr
      have HL := hide hlen
      have hlen' : l.length ≤ k.length := by omega
      clear hlen
      go_enter Tryz.func26, Tryz.ntmps26
      go_wp2
      go_loopw [5] (fun i wr => ∃ j n : Nat, j ≤ l.length ∧ i = .int .i64 j ∧ Hid (l.take j = k.take j) ∧ w.drewN n = wr)
        (fun i _ => l.length - (intOf i).toNat)
      case atStart => exact ⟨0, 0, Nat.zero_le _, rfl, hide rfl, rfl⟩
      case round =>
        obtain ⟨j, n, hj, rfl, HT, rfl⟩ := hrel
        by_cases hlt : j < l.length
        · have x1 := hcell1 j hlt
          have x2 := hcell2 j (by omega)
          obtain ⟨x11, x12⟩ := x1
          obtain ⟨x21, x22⟩ := x2
          by_cases he : l[j] = k[j]
          · have hd : (!decide (l[j] = k[j])) = false := by simp [he]
            have HT2 := hide (tk_eq_succ l k j hlt (by omega) HT.out he)
            clear he HT
            go_wp2
            go_quiet (fail)
            go_wp2
            refine ⟨?_, by first | (simp [intOf]; done) | (simp [intOf]; omega)⟩
            first
              | exact ⟨j + 1, _, by omega, by go_num, HT2, by first | rfl | trivial⟩
              | ((repeat apply Exists.intro); exact ⟨⟨j + 1, _, by omega, by go_num, HT2, by first | rfl | trivial⟩, rfl⟩)
          · have hd : (!decide (l[j] = k[j])) = true := by simp [he]
            have hne : decide (l = k) = false := by
              simp only [decide_eq_false_iff_not]
              intro h; subst h; exact he rfl
            have HNE := hide (HRR.out.trans hne)
            clear he HT hne
            go_wp2
            go_quiet (fail)
            go_wp2
            go_ret
            exact ⟨ret_bool HNE.out.symm, _, by rw [World.drewN_drewN]⟩
        · obtain rfl : j = l.length := by omega
          have he : l = k := by
            have h1 := HT.out
            rw [List.take_of_length_le (by omega), List.take_of_length_le (by have := HL.out; omega)] at h1
            exact h1
          have hne : decide (l = k) = true := by simp [he]
          have HNE := hide (HRR.out.trans hne)
          clear HT he hne hcell1 hcell2
          go_wp2
          go_ret
          exact ⟨ret_bool HNE.out.symm, n, rfl⟩
    · have h1 : l = [] := List.eq_nil_of_length_eq_zero (by omega)
      have h2 : k = [] := List.eq_nil_of_length_eq_zero (by omega)
      subst h1 h2
      clear h g hl hk hlen hp e1
      go_enter Tryz.func26, Tryz.ntmps26
      go_wp2
      refine wp_loop_rounds 2 ?_
      rw [rounds_succ]; go_wp2
      go_ret
      exact ⟨rfl, 0, rfl⟩
  · have e1 : ((l.length : Int) != (k.length : Int)) = true := by simp; omega
    have e2 : decide (l = k) = false := by simp; intro h; rw [h] at hlen; exact hlen rfl
    rw [e2]
    clear e2 hlen h g
    go_enter Tryz.func26, Tryz.ntmps26
    go_wp2
    go_ret
    exact ⟨rfl, 0, rfl⟩
end
end Go.Proofs.YtcnliipkfccohaaGreat
end
