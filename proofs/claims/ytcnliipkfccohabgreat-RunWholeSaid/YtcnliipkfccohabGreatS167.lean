/- What the two trees of the layer's awake take; At and All of them. No condition. And 1 texts more. -/
import Derived.Test.YtcnliipkfccohabGreatS166
import Derived.Test.YtcnliipkfccohabGreatS163
namespace Go.Proofs.YtcnliipkfccohabGreat
end Go.Proofs.YtcnliipkfccohabGreat
namespace Go.Proofs.YtcnliipkfccohabGreat.SetM
end Go.Proofs.YtcnliipkfccohabGreat.SetM
namespace Go.Proofs.YtcnliipkfccohabGreat.SpanM
end Go.Proofs.YtcnliipkfccohabGreat.SpanM
section
namespace Go.Proofs.YtcnliipkfccohabGreat
open SetM SpanM
open Go.ChangeShapes Go.WideShapes Go.ChangeAt Go.RowKit
set_option maxRecDepth 100000
set_option linter.unusedVariables false
theorem er_fld {t : Rt} {k : Int} {c : ByteArray} {nt : Bool} {R : List Rw} {mi ma : Int} {lz : Bool} {l : List Rt} (h : er t = .mk k c nt (.slice none 0 0) R mi ma lz (.slice none 0 0) l) : t.k = k ∧ t.ch = c ∧ t.mi = mi ∧ t.ma = ma ∧ t.lz = lz ∧ t.kids.map er = l := by
  rw [er_eq] at h
  injection h with h1 h2 h3 h4 h5 h6 h7 h8 h9 h10
  exact ⟨h1, h2, h6, h7, h8, h10⟩
theorem er_two {l : List Rt} {a b : Rt} (h : l.map er = [a, b]) : ∃ u v, l = [u, v] ∧ er u = a ∧ er v = b := by
  match l, h with
  | [u, v], h => injection h with h1 h2; injection h2 with h2 _; exact ⟨u, v, rfl, h1, h2⟩
theorem er_sng {l : List Rt} {a : Rt} (h : l.map er = [a]) : ∃ u, l = [u] ∧ er u = a := by
  match l, h with
  | [u], h => injection h with h1 _; exact ⟨u, rfl, h1⟩
theorem er_nil {l : List Rt} (h : l.map er = []) : l = [] := by
  match l, h with
  | [], _ => rfl
theorem chr_fld {t : Rt} {c : ByteArray} (h : er t = chX c) : t.k = 2 ∧ t.ch = c ∧ gM t = 0 := by
  obtain ⟨h1, h2, _, _, _, h6⟩ := er_fld h
  refine ⟨h1, h2, ?_⟩
  rw [gM_eq, h1, er_nil h6]; rfl
theorem tk_chr {s : ByteArray} {ps : List Nat} {v : Rt} {c : ByteArray} (hk : v.k = 2) (hc : v.ch = c) (i : Nat) : tkG s ps false v i = if i + 1 < ps.length then (if chG s ps i = c then some 1 else none) else none := by
  unfold tkG
  rw [if_neg (by omega), if_neg (by omega), if_neg (by omega), if_neg (by omega)]
  unfold accB
  rw [if_pos hk, hc]
  simp
theorem nb_chr {v : Rt} (hk : v.k = 2) : v.k ≠ 0 ∧ v.k ≠ 1 ∧ v.k ≠ 7 ∧ v.k ≠ 5 ∧ v.k ≠ 6 := by omega
theorem ps_aab : psS ⟨#[97, 97, 98]⟩ = [0, 1, 2, 3] := by decide
theorem ps_ab : psS ⟨#[97, 98]⟩ = [0, 1, 2] := by decide
theorem on_aab {t : Rt} (h : er t = tA) : On (ofG [0, 1, 2, 3]) (tkG ⟨#[97, 97, 98]⟩ [0, 1, 2, 3] false) 100 [.hold t 0] 0 (List.replicate (gM t) (-1, -1)) (.found 3 [] 95) := by
  obtain ⟨t1, _, _, _, _, t6⟩ := er_fld h
  obtain ⟨u, v, hk, hu, hv⟩ := er_two t6
  obtain ⟨u1, _, u3, u4, u5, u6⟩ := er_fld hu
  obtain ⟨y, hy, hyc⟩ := er_sng u6
  obtain ⟨y1, y2, y3⟩ := chr_fld hyc
  obtain ⟨v1, v2, v3⟩ := chr_fld hv
  have hgu : gM u = 0 := by rw [gM_eq, u1, hy]; simp [gL, y3]
  have hg : gM t = 0 := by rw [gM_eq, t1, hk]; simp [gL, hgu, v3]
  rw [hg]
  have a0 : tkG ⟨#[97, 97, 98]⟩ [0, 1, 2, 3] false y 0 = some 1 := by rw [tk_chr y1 y2]; decide
  have a1 : tkG ⟨#[97, 97, 98]⟩ [0, 1, 2, 3] false y 1 = some 1 := by rw [tk_chr y1 y2]; decide
  have b0 : tkG ⟨#[97, 97, 98]⟩ [0, 1, 2, 3] false v 0 = none := by rw [tk_chr v1 v2]; decide
  have b1 : tkG ⟨#[97, 97, 98]⟩ [0, 1, 2, 3] false v 1 = none := by rw [tk_chr v1 v2]; decide
  have b2 : tkG ⟨#[97, 97, 98]⟩ [0, 1, 2, 3] false v 2 = some 1 := by rw [tk_chr v1 v2]; decide
  refine .seq _ _ _ _ _ _ _ t1 ?_
  rw [hk]
  show On _ _ 100 [.hold u 0, .hold v (0 + gM u)] 0 [] _
  refine .rep _ _ _ _ _ _ _ u1 ?_
  refine .lazyN _ 99 _ _ _ _ _ _ _ (by omega) (by omega) u5 (.no _ _ _ _ _ _ (nb_chr v1) b0) ?_
  refine .mk _ _ y _ _ _ _ _ _ hy ?_
  refine .yes _ _ _ _ _ _ 1 _ (nb_chr y1) a0 ?_
  refine .again _ _ _ _ _ _ _ _ _ (by omega) ?_
  refine .lazyN _ 97 _ _ _ _ _ _ _ (by omega) (by omega) u5 (.no _ _ _ _ _ _ (nb_chr v1) b1) ?_
  refine .mk _ _ y _ _ _ _ _ _ hy ?_
  refine .yes _ _ _ _ _ _ 1 _ (nb_chr y1) a1 ?_
  refine .again _ _ _ _ _ _ _ _ _ (by omega) ?_
  refine .lazyD _ _ _ _ _ _ _ _ (by omega) (by omega) u5 ?_ (by intro f' h; cases h)
  exact .yes _ _ _ _ _ _ 1 _ (nb_chr v1) b2 (.nil _ _ _)
theorem al_ab {t : Rt} (h : er t = tB) : Al (ofG [0, 1, 2]) (QG (ofG [0, 1, 2]) (tkG ⟨#[97, 98]⟩ [0, 1, 2] false) t (gM t)) 3 100 0 (some ([((0, 1), [(0, 1)]), ((1, 2), [(-1, -1)])], 92)) := by
  obtain ⟨t1, _, _, _, _, t6⟩ := er_fld h
  obtain ⟨u, v, hk, hu, hv⟩ := er_two t6
  obtain ⟨u1, _, u3, u4, u5, u6⟩ := er_fld hu
  obtain ⟨y, hy, hyc⟩ := er_sng u6
  obtain ⟨y1, y2, y3⟩ := chr_fld hyc
  obtain ⟨v1, v2, v3⟩ := chr_fld hv
  have hgu : gM u = 1 := by rw [gM_eq, u1, hy]; simp [gL, y3]
  have hg : gM t = 1 := by rw [gM_eq, t1, hk]; simp [gL, hgu, v3]
  rw [hg]
  have a0 : tkG ⟨#[97, 98]⟩ [0, 1, 2] false y 0 = some 1 := by rw [tk_chr y1 y2]; decide
  have a1 : tkG ⟨#[97, 98]⟩ [0, 1, 2] false y 1 = none := by rw [tk_chr y1 y2]; decide
  have a2 : tkG ⟨#[97, 98]⟩ [0, 1, 2] false y 2 = none := by rw [tk_chr y1 y2]; decide
  have b1 : tkG ⟨#[97, 98]⟩ [0, 1, 2] false v 1 = some 1 := by rw [tk_chr v1 v2]; decide
  have b2 : tkG ⟨#[97, 98]⟩ [0, 1, 2] false v 2 = none := by rw [tk_chr v1 v2]; decide
  have q0 : QG (ofG [0, 1, 2]) (tkG ⟨#[97, 98]⟩ [0, 1, 2] false) t 1 100 0 (.found 1 [(0, 1)] 98) := by
    refine .alt _ _ _ _ _ _ _ t1 ?_
    rw [hk]
    refine .done _ _ _ _ _ _ _ _ ?_ (by intro f' h; cases h)
    refine .group _ _ y _ _ _ _ _ u1 hy ?_
    refine .yes _ _ _ _ _ _ 1 _ (nb_chr y1) a0 ?_
    exact .ended _ _ _ _ _ _ _ (.nil _ _ _)
  have q1 : QG (ofG [0, 1, 2]) (tkG ⟨#[97, 98]⟩ [0, 1, 2] false) t 1 98 1 (.found 2 [(-1, -1)] 95) := by
    refine .alt _ _ _ _ _ _ _ t1 ?_
    rw [hk]
    refine .next _ 96 _ _ _ _ _ _ _ ?_ ?_
    · refine .group _ _ y _ _ _ _ _ u1 hy ?_
      exact .no _ _ _ _ _ _ (nb_chr y1) a1
    · refine .done _ _ _ _ _ _ _ _ ?_ (by intro f' h; cases h)
      exact .yes _ _ _ _ _ _ 1 _ (nb_chr v1) b1 (.nil _ _ _)
  have q2 : QG (ofG [0, 1, 2]) (tkG ⟨#[97, 98]⟩ [0, 1, 2] false) t 1 95 2 (.fail 92) := by
    refine .alt _ _ _ _ _ _ _ t1 ?_
    rw [hk]
    refine .next _ 93 _ _ _ _ _ _ _ ?_ ?_
    · refine .group _ _ y _ _ _ _ _ u1 hy ?_
      exact .no _ _ _ _ _ _ (nb_chr y1) a2
    · refine .next _ 92 _ _ _ _ _ _ _ ?_ (.nil _ _ _ _ _)
      exact .no _ _ _ _ _ _ (nb_chr v1) b2
  have l2 := Al.none (of := ofG [0, 1, 2]) (Q := QG (ofG [0, 1, 2]) (tkG ⟨#[97, 98]⟩ [0, 1, 2] false) t 1) (N := 3) 95 2 0 92 (by decide) (.miss 95 92 2 0 _ (by decide) q2 (.none 92 3 (by decide)))
  have l1 := Al.more (of := ofG [0, 1, 2]) (Q := QG (ofG [0, 1, 2]) (tkG ⟨#[97, 98]⟩ [0, 1, 2] false) t 1) (N := 3) 98 1 1 2 [(-1, -1)] 95 _ (by decide) (.hit 98 1 _ (by decide) q1 (by intro f' h; cases h)) l2
  exact Al.more (of := ofG [0, 1, 2]) (Q := QG (ofG [0, 1, 2]) (tkG ⟨#[97, 98]⟩ [0, 1, 2] false) t 1) (N := 3) 100 0 0 1 [(0, 1)] 98 _ (by decide) (.hit 100 0 _ (by decide) q0 (by intro f' h; cases h)) l1
theorem cn_a {t : Rt} (h : er t = tA) : cnB t 16 512 = true ∧ sM t ≤ 1000 := by
  rw [cnB_er h, ← sM_er, h]; constructor <;> simp only [cnB, tA, tRep, kdX, chX, pM, pL, dM, dL, okM, okL, sM, sL] <;> decide
theorem cn_b {t : Rt} (h : er t = tB) : cnB t 16 512 = true ∧ sM t ≤ 1000 := by
  rw [cnB_er h, ← sM_er, h]; constructor <;> simp only [cnB, tB, tGrp, kdX, chX, pM, pL, dM, dL, okM, okL, sM, sL] <;> decide
theorem aw_at {t : Rt} (h : er t = tA) {w w' : World} {e : Ending} (hp : AtPost t false ⟨#[97, 97, 98]⟩ 0 100 w e w') : ∃ A c, e = .returned (.tuple #[.agg #[.int .i64 0, .int .i64 3, .slice A 0 c], .int .i64 95, .bool true, .int .i64 0]) ∧ Below w.heap.size w w' := by
  unfold AtPost at hp
  rw [if_neg (by rw [(cn_a h).1]; decide), ps_aab, if_pos (by decide)] at hp
  obtain ⟨i, r, ⟨hi, h0⟩, ho, hp⟩ := hp
  obtain rfl : i = 0 := by
    match i, hi, h0 with
    | 0, _, _ => rfl
    | 1, _, h0 => simp at h0
    | 2, _, h0 => simp at h0
    | 3, _, h0 => simp at h0
  obtain rfl := on_det _ _ ho (on_aab h)
  obtain ⟨v', rfl, hb, ho⟩ := hp
  obtain ⟨A, c, rfl⟩ := own_slice ho
  exact ⟨A, c, rfl, hb⟩
theorem aw_all {t : Rt} (h : er t = tB) {w w' : World} {e : Ending} (hp : AgPost t false ⟨#[97, 98]⟩ 100 w e w') : ∃ g c g1 c1, e = .returned (.tuple #[.slice (some ⟨g, 0, none⟩) 2 c, .int .i64 92, .int .i64 0]) ∧ Below w.heap.size w w' ∧ w'.cell? ⟨g, 5, none⟩ = some (.slice (some ⟨g1, 0, none⟩) 1 c1) ∧ w'.cell? ⟨g1, 0, none⟩ = some (.int .i64 (-1)) := by
  unfold AgPost at hp
  rw [if_neg (by rw [(cn_b h).1]; decide), ps_ab, if_pos (by decide)] at hp
  obtain ⟨i, o, ⟨hi, h0⟩, ho, hp⟩ := hp
  obtain rfl : i = 0 := by
    match i, hi, h0 with
    | 0, _, _ => rfl
    | 1, _, h0 => simp at h0
    | 2, _, h0 => simp at h0
  obtain rfl := al_det (Q := QG (ofG [0, 1, 2]) (tkG ⟨#[97, 98]⟩ [0, 1, 2] false) t (gM t)) (fun f i r r' h1 h2 => on_det _ _ h1 h2) ho (al_ab h)
  obtain ⟨v, A, rfl, hb, ho, hm⟩ := hp
  match A, hm with
  | [a0, a1], ⟨_, _, _, _, _, ⟨hr, _⟩, _⟩ =>
    rcases own_form ho with ⟨_, h1, _⟩ | ⟨g, c, rfl, _, _, _, _, hc⟩
    · cases h1
    rcases own_form hr with ⟨_, h1, _⟩ | ⟨g1, c1, hv, _, _, _, _, hc1⟩
    · cases h1
    exact ⟨g, c, g1, c1, rfl, hb, by rw [hc 5 _ rfl]; exact congrArg some hv, hc1 0 _ rfl⟩
end Go.Proofs.YtcnliipkfccohabGreat
end
section
namespace Go.Proofs.YtcnliipkfccohabGreat
open Go.ChangeShapes Go.WideShapes Go.ChangeAt Go.RowKit
open SetM SpanM
attribute [local go_sem ↓] Go.wp_at_zero Go.wp_at_succ
set_option maxRecDepth 100000
set_option linter.unusedVariables false
set_option maxHeartbeats 16000000 in
theorem awake16_any (w : World) : Calls Tryz.prog 5 #[] w fun e w' => e = .returned (.bool true) ∧ Below w.heap.size w w' := by
  have HR1 := hide (fun W => read_a W)
  have HR2 := hide (fun W => read_b W)
  go_enter Tryz.func5, Tryz.ntmps5
  go_wp2_with fail
  refine (HR1.out _).mono ?_
  rintro e w1 ⟨t, rfl, hb1, hrx, her⟩
  obtain ⟨tA, tc, htrv⟩ := rwat_len hrx.rows
  obtain ⟨tB, td, htkv⟩ := ksat_len hrx.ks
  have HTV := hide (show t.v = .agg #[.int .i64 t.k, .string t.ch, .bool t.nt, .slice tA t.rows.length tc, .int .i64 t.mi, .int .i64 t.ma, .bool t.lz, .slice tB t.kids.length td] by unfold Rt.v Rt.cs; rw [htrv, htkv])
  have HAT := hide (fun W (hb : Below w1.heap.size w1 W) => at_any (rx_below hrx hb) (cn_a her).2 false ⟨#[97, 97, 98]⟩ (by decide) 0 100)
  rw [HTV.out] at HAT
  rw [HTV.out]
  have HER := hide her
  have K1 := hide (show Cl (w1.alloc (.cells #[.int .i64 t.k, .string t.ch, .bool t.nt, .slice tA t.rows.length tc, .int .i64 t.mi, .int .i64 t.ma, .bool t.lz, .slice tB t.kids.length td] 25)) w1.heap.size [.int .i64 t.k, .string t.ch, .bool t.nt, .slice tA t.rows.length tc, .int .i64 t.mi, .int .i64 t.ma, .bool t.lz, .slice tB t.kids.length td] from cl_alloc w1 [.int .i64 t.k, .string t.ch, .bool t.nt, .slice tA t.rows.length tc, .int .i64 t.mi, .int .i64 t.ma, .bool t.lz, .slice tB t.kids.length td] _)
  have HB1 := hide (bl_alloc hb1 (.cells #[.int .i64 t.k, .string t.ch, .bool t.nt, .slice tA t.rows.length tc, .int .i64 t.mi, .int .i64 t.ma, .bool t.lz, .slice tB t.kids.length td] 25))
  clear hrx her htrv htkv hb1
  obtain ⟨k0, k1, k2, k3, k4, k5, k6, k7⟩ := K1.out.eight
  go_wp2_with fail
  refine (HAT.out _ (bl_alloc (bl_refl w1) _)).mono ?_
  clear k0 k1 k2 k3 k4 k5 k6 k7
  rintro e w2 hp
  obtain ⟨A, c, rfl, hb2⟩ := aw_at HER.out hp
  have HB2 := hide (bl_alloc (bl_trans HB1.out hb2) (.cells #[.int .i64 0, .int .i64 3, .slice A 0 c] 36))
  have m0 : (w2.alloc (.cells #[.int .i64 0, .int .i64 3, .slice A 0 c] 36)).cell? ⟨w2.heap.size, 0, none⟩ = some (.int .i64 0) := cells_lit w2 _ _ 0 _ rfl
  have m1 : (w2.alloc (.cells #[.int .i64 0, .int .i64 3, .slice A 0 c] 36)).cell? ⟨w2.heap.size, 1, none⟩ = some (.int .i64 3) := cells_lit w2 _ _ 1 _ rfl
  have M0 := hide m0
  have M1 := hide m1
  clear hp hb2 m0 m1 HAT
  go_wp2_with fail
  refine (HR2.out _).mono ?_
  rintro e w3 ⟨u, rfl, hb3, hrx, her⟩
  obtain ⟨uA, uc, hurv⟩ := rwat_len hrx.rows
  obtain ⟨uB, ud, hukv⟩ := ksat_len hrx.ks
  have HUV := hide (show u.v = .agg #[.int .i64 u.k, .string u.ch, .bool u.nt, .slice uA u.rows.length uc, .int .i64 u.mi, .int .i64 u.ma, .bool u.lz, .slice uB u.kids.length ud] by unfold Rt.v Rt.cs; rw [hurv, hukv])
  have HAL := hide (fun W (hb : Below w3.heap.size w3 W) => all_any (rx_below hrx hb) (cn_b her).2 false ⟨#[97, 98]⟩ (by decide) 100)
  rw [HUV.out] at HAL
  rw [HUV.out]
  have HER2 := hide her
  have K3 := hide (show Cl (w3.alloc (.cells #[.int .i64 u.k, .string u.ch, .bool u.nt, .slice uA u.rows.length uc, .int .i64 u.mi, .int .i64 u.ma, .bool u.lz, .slice uB u.kids.length ud] 25)) w3.heap.size [.int .i64 u.k, .string u.ch, .bool u.nt, .slice uA u.rows.length uc, .int .i64 u.mi, .int .i64 u.ma, .bool u.lz, .slice uB u.kids.length ud] from cl_alloc w3 [.int .i64 u.k, .string u.ch, .bool u.nt, .slice uA u.rows.length uc, .int .i64 u.mi, .int .i64 u.ma, .bool u.lz, .slice uB u.kids.length ud] _)
  have HB3 := hide (bl_alloc (bl_trans HB2.out hb3) (.cells #[.int .i64 u.k, .string u.ch, .bool u.nt, .slice uA u.rows.length uc, .int .i64 u.mi, .int .i64 u.ma, .bool u.lz, .slice uB u.kids.length ud] 25))
  have HN3 := hide (bl_alloc hb3 (.cells #[.int .i64 u.k, .string u.ch, .bool u.nt, .slice uA u.rows.length uc, .int .i64 u.mi, .int .i64 u.ma, .bool u.lz, .slice uB u.kids.length ud] 25))
  clear hrx her hurv hukv hb3
  obtain ⟨k0, k1, k2, k3, k4, k5, k6, k7⟩ := K3.out.eight
  go_wp2_with fail
  refine (HAL.out _ (bl_alloc (bl_refl w3) _)).mono ?_
  clear k0 k1 k2 k3 k4 k5 k6 k7
  rintro e w4 hp
  obtain ⟨g, c4, g1, c1, rfl, hb4, x5, x0⟩ := aw_all HER2.out hp
  have HB4 := hide (bl_trans HB3.out hb4)
  have m0 := cell_later (bl_trans HN3.out hb4) M0.out
  have m1 := cell_later (bl_trans HN3.out hb4) M1.out
  clear hp hb4
  go_wp2
  go_ret
  exact ⟨rfl, HB4.out⟩
end Go.Proofs.YtcnliipkfccohabGreat
end
