/- Made of parts, and of what is made of some of them, trees come to the same; groups are as many, and no deeper. Conditions: none beyond the form's own. -/
import Derived.Test.YtmfaeonlmfejdaaRows
import Derived.Test.YtmfaeonlmfejdaaArgs
import Derived.Test.YtmfaeonlmfejdaaSmB
import Derived.Test.YtmfaeonlmfejdaaRyH
namespace Go.Proofs.Ytmfaeonlmfejdaa.seqTwice
open Go.Proofs.Ytmfaeonlmfejdaa
open Go.ChangeShapes Go.WideShapes Go.ChangeAt Go.RowKit Go.Deep
open Go.ChangeMaps (open_string shut_string)
set_option linter.unusedVariables false

theorem own : ownKnob Try.prog.godebug = none := by kernel_rfl
theorem laidOut : laidOutB Try.prog = true := by kernel_rfl
-- opt: 16000000
open SetM
attribute [local go_sem ↓] Go.wp_at_zero Go.wp_at_succ
attribute [local go_sem] later_cell later_frozen
set_option maxRecDepth 100000 in
set_option maxHeartbeats 16000000 in
theorem walk (a0 : Option Addr) (len0 cap0 : Nat) (z0 : List ByteArray) (a1 : Int) (w : World) (w0 : IsStrs w a0 len0 cap0 z0) (w1 : (Lit.int .i64 a1).wf = true) :
    Calls Try.prog 7 #[.slice a0 len0 cap0, .int .i64 a1] w fun e w' => e = .returned (.bool true) ∧ Below w.heap.size w w' := by
  obtain ⟨i0, hi0, hz0', hz1, hz2⟩ := info_parts info_rx
  have HLONG := hide (fun W (h : IsStrs W a0 len0 cap0 z0) => long_any W 100 a0 len0 cap0 z0 h (by decide) (by decide))
  have HST := hide w0
  by_cases h8 : 8 < len0
  case pos =>
    have d8 : decide ((8 : Int) < (len0 : Int)) = true := decide_eq_true (by omega)
    have d8' : decide (8 < len0) = true := decide_eq_true h8
    clear h8
    go_enter Try.func7, Try.ntmps7
    go_wp2_with fail
    refine (awake13_any _).mono ?_
    rintro e w99 ⟨rfl, hb99⟩
    have HBE := hide (bl_trans (bl_refl w) hb99)
    clear hb99
    go_wp2
    go_ret
    exact ⟨rfl, HBE.out⟩
  have d8 : decide ((8 : Int) < (len0 : Int)) = false := decide_eq_false (by omega)
  have d8' : decide (8 < len0) = false := decide_eq_false h8
  obtain ⟨q, hq⟩ : ∃ q, longL 100 (z0.take len0) = q := ⟨_, rfl⟩
  rw [hq] at HLONG
  cases q
  rotate_left
  · clear h8 hq
    go_enter Try.func7, Try.ntmps7
    go_wp2_with fail
    refine (HLONG.out _ HST.out).mono ?_
    rintro e w1 ⟨rfl, rfl⟩
    go_wp2_with fail
    refine (awake13_any _).mono ?_
    rintro e w99 ⟨rfl, hb99⟩
    have HBE := hide (bl_trans (bl_refl w) hb99)
    clear hb99
    go_wp2
    go_ret
    exact ⟨rfl, HBE.out⟩
  have HTR := hide (trees_any a0 len0 cap0 z0 w HST.out (by omega) hq)
  unfold TrsPost at HTR
  clear h8 hq
  go_enter Try.func7, Try.ntmps7
  go_wp2_with fail
  refine (HLONG.out _ HST.out).mono ?_
  rintro e w1 ⟨rfl, rfl⟩
  go_wp2_with fail
  refine HTR.out.mono ?_
  rintro e w1 ⟨v, L, rfl, hb1, hown, hrx, hl8, hg⟩
  obtain ⟨vA, vc, rfl⟩ := own_slice hown
  have hks := own_ksat hown
  have hcl : L.length ≤ vc := by
    rcases hks with ⟨hv, rfl⟩ | ⟨x, c', hv, h1, -⟩
    · injection hv with _ _ hv; subst hv; exact Nat.le_refl _
    · injection hv with _ _ hv; subst hv; exact h1
  have HB1 := hide hb1
  have HKS := hide hks
  have HRX := hide hrx
  have HGD := hide hg
  have HL8 := hide hl8
  have hlow := fun W => low_any a1 (L.length + 1) W (by omega) (by omega)
  have hklt := lowN_lt a1 (L.length + 1) (by omega)
  obtain ⟨k, hk⟩ : ∃ k, lowN a1 (L.length + 1) = k := ⟨_, rfl⟩
  rw [hk] at hlow hklt
  rw [show ((L.length + 1 : Nat) : Int) = (L.length : Int) + 1 by omega] at hlow
  have HLOW := hide hlow
  have ewl : IntKind.i64.wrap ((L.length : Int) + 1) = (L.length : Int) + 1 := by rw [IntKind.wrap_i64]; omega
  have hkL : k ≤ L.length := by omega
  have hk1 := ks_take hks k hkL
  have hk2 := ks_drop hks k hkL
  have hslo := fun (W : World) => run_slice_to (P := Try.prog) 23 25 i0 Try.underlying23 hi0 vA L.length vc k (k : Int) rfl (by omega) W
  have hshi := fun (W : World) => run_slice_from (P := Try.prog) 23 25 i0 Try.underlying23 hi0 vA L.length vc k (k : Int) rfl (by omega) W
  rw [hz1] at hshi
  generalize (if vc = k then vA else vA.map (·.add (k * 8))) = A2 at *
  obtain ⟨n2, hn2⟩ : ∃ n, L.length - k = n := ⟨_, rfl⟩
  obtain ⟨c2, hc2⟩ : ∃ n, vc - k = n := ⟨_, rfl⟩
  rw [hn2, hc2] at hshi hk2
  have HK1 := hide hk1
  have HK2 := hide hk2
  have HKL := hide hkL
  have HSEQ := hide (fun W (hb : Below w1.heap.size w1 W) => seq_any (.slice vA L.length vc) L W (ksat_below hks hb) (fun i hi => rx_below (hrx _ (List.getElem_mem hi)) hb) (by have := hg.sm; omega))
  have HALT := hide (fun W (hb : Below w1.heap.size w1 W) => alt_any (.slice vA L.length vc) L W (ksat_below hks hb) (fun i hi => rx_below (hrx _ (List.getElem_mem hi)) hb) (by have := hg.sm; omega))
  have HSA := hide (fun W (hb : Below w1.heap.size w1 W) => seq_any (.slice vA k vc) (L.take k) W (ksat_below hk1 hb) (fun i hi => rx_below (hrx _ (List.mem_of_mem_take (List.getElem_mem hi))) hb) (by have := hg.sm; have := sL_take L k; omega))
  have HSB := hide (fun W (hb : Below w1.heap.size w1 W) => seq_any (.slice A2 n2 c2) (L.drop k) W (ksat_below hk2 hb) (fun i hi => rx_below (hrx _ (List.mem_of_mem_drop (List.getElem_mem hi))) hb) (by have := hg.sm; have := sL_drop L k; omega))
  have HAA := hide (fun W (hb : Below w1.heap.size w1 W) => alt_any (.slice vA k vc) (L.take k) W (ksat_below hk1 hb) (fun i hi => rx_below (hrx _ (List.mem_of_mem_take (List.getElem_mem hi))) hb) (by have := hg.sm; have := sL_take L k; omega))
  have HAB := hide (fun W (hb : Below w1.heap.size w1 W) => alt_any (.slice A2 n2 c2) (L.drop k) W (ksat_below hk2 hb) (fun i hi => rx_below (hrx _ (List.mem_of_mem_drop (List.getElem_mem hi))) hb) (by have := hg.sm; have := sL_drop L k; omega))
  unfold SqPost at HSEQ HALT HSA HSB HAA HAB
  clear hb1 hown hrx hl8 hg HTR HLONG hks hlow hk hklt hk1 hk2 hn2 hc2 hcl hkL
  go_wp2_with fail
  refine (HLOW.out _).mono ?_
  rintro e w2 ⟨rfl, rfl⟩
  go_wp2_with fail
  refine (HSEQ.out _ (bl_refl _)).mono ?_
  rintro e wa ⟨t, rfl, hba, hrxt, hert⟩
  have HBA := hide hba
  obtain ⟨tA, tc, tB, td, htr, htk, htv⟩ := rx_vv hrxt
  rw [htv]
  have HTV := hide htv
  have HRT := hide hrxt
  have HET := hide hert
  clear hba hrxt hert htr htk htv
  go_wp2_with fail
  refine (HALT.out _ HBA.out).mono ?_
  rintro e ws ⟨u, rfl, hbs, hrxu, heru⟩
  obtain ⟨uA, uc, uB, ud, hur, huk, huv⟩ := rx_vv hrxu
  rw [huv]
  obtain ⟨W3, hW3⟩ : ∃ W, (ws.alloc (.cells #[.int .i64 t.k, .string t.ch, .bool t.nt, .slice tA t.rows.length tc, .int .i64 t.mi, .int .i64 t.ma, .bool t.lz, .slice tB t.kids.length td] 25)).alloc (.cells #[.int .i64 u.k, .string u.ch, .bool u.nt, .slice uA u.rows.length uc, .int .i64 u.mi, .int .i64 u.ma, .bool u.lz, .slice uB u.kids.length ud] 25) = W := ⟨_, rfl⟩
  have hws : Below ws.heap.size ws W3 := by rw [← hW3]; exact bl_alloc (bl_alloc (bl_refl ws) _) _
  have htc : Cl W3 ws.heap.size [.int .i64 t.k, .string t.ch, .bool t.nt, .slice tA t.rows.length tc, .int .i64 t.mi, .int .i64 t.ma, .bool t.lz, .slice tB t.kids.length td] := by rw [← hW3]; exact (cl_alloc ws [.int .i64 t.k, .string t.ch, .bool t.nt, .slice tA t.rows.length tc, .int .i64 t.mi, .int .i64 t.ma, .bool t.lz, .slice tB t.kids.length td] _).bl (bl_alloc (bl_refl _) _)
  have huc : Cl W3 (ws.heap.size + 1) [.int .i64 u.k, .string u.ch, .bool u.nt, .slice uA u.rows.length uc, .int .i64 u.mi, .int .i64 u.ma, .bool u.lz, .slice uB u.kids.length ud] := by rw [← hW3]; exact cl_alloc_n (ws.alloc (.cells #[.int .i64 t.k, .string t.ch, .bool t.nt, .slice tA t.rows.length tc, .int .i64 t.mi, .int .i64 t.ma, .bool t.lz, .slice tB t.kids.length td] 25)) [.int .i64 u.k, .string u.ch, .bool u.nt, .slice uA u.rows.length uc, .int .i64 u.mi, .int .i64 u.ma, .bool u.lz, .slice uB u.kids.length ud] _ _ (by simp)
  have HUV := hide huv
  have HRT3 := hide (rx_below (rx_below HRT.out hbs) hws)
  have HRU3 := hide (rx_below hrxu hws)
  have HEU := hide heru
  have HB13 := hide (bl_trans (bl_trans HBA.out hbs) hws)
  have TC := hide htc
  have UC := hide huc
  obtain ⟨x0, x1, x2, x3, x4, x5, x6, x7⟩ := htc.eight
  obtain ⟨y0, y1, y2, y3, y4, y5, y6, y7⟩ := huc.eight
  have hsm : ∀ (q : Rt) (k : Int) (M : List Rt), (er q = seqX (flK 0 M) ∨ er q = altX (flK 1 M)) → sL M ≤ 816 → sM q ≤ 1000 := by
    intro q k M hq hM
    rcases hq with hq | hq
    · have h1 := (seqX_gd (flK 0 M) (flK_ers 0 M)).1
      have h2 := sL_flK_le 0 M
      rw [← sM_er, hq]; omega
    · have h1 := (altX_gd (flK 1 M) (flK_ers 1 M)).1
      have h2 := sL_flK_le 1 M
      rw [← sM_er, hq]; omega
  have hs1 : sL (L.take k) ≤ 816 := Nat.le_trans (sL_take L k) HGD.out.sm
  have hs2 : sL (L.drop k) ≤ 816 := Nat.le_trans (sL_drop L k) HGD.out.sm
  have HS3 := hide (fun (V W : World) (n : Nat) (arr : Array Value) (p q : Rt) (h1 : Below (V.alloc (.cells arr 25)).heap.size (V.alloc (.cells arr 25)) W) (h2 : n = V.heap.size) (h3 : Below W3.heap.size W3 V) (ha : arr.toList = p.cs ++ q.cs) (hp : RxAt V p) (hq : RxAt V q) (ep : er p = seqX (flK 0 (L.take k))) (eq : er q = seqX (flK 0 (L.drop k))) => (show Calls Try.prog 21 #[.slice (some ⟨n, 0, none⟩) 2 2] W (fun e w' => ∃ t', e = .returned t'.v ∧ Below W.heap.size W w' ∧ RxAt w' t' ∧ er t' = seqX (flK 0 L)) from by
    subst h2
    obtain ⟨g1, g2⟩ := ks_two ha hp hq h1
    have := seq_any _ _ _ g1 g2 (by have z1 := hsm p 0 _ (.inl ep) hs1; have z2 := hsm q 0 _ (.inl eq) hs2; simp only [sL]; omega)
    unfold SqPost at this
    rw [seq_halves HGD.out.ok k ep eq] at this
    exact this))
  have HSS := hide (fun (V W : World) (q : Rt) (h1 : Below V.heap.size V W) (hq : RxAt V q) (he : er q = seqX (flK 0 L)) (h3 : Below W3.heap.size W3 V) (A : Value) (hA : q.v = A) => (show Calls Try.prog 19 #[A, .agg #[.int .i64 t.k, .string t.ch, .bool t.nt, .slice tA t.rows.length tc, .int .i64 t.mi, .int .i64 t.ma, .bool t.lz, .slice tB t.kids.length td]] W (fun e w' => e = .returned (.bool true) ∧ Below W.heap.size W w') from by
    have hh := same_any hq (rx_below HRT3.out h3) W h1
    rw [sameM_of (he.trans HET.out.symm), hA, HTV.out] at hh
    exact hh))
  have HWS := hide hws
  have HSMM := hide (And.intro hs1 hs2)
  have HSM := hide hsm
  clear hbs hrxu heru hur huk huv hws htc huc hsm hs1 hs2 y0 y1 y2 y3 y4 y5 y6 y7
  have HKEEP := hide (show ∀ W, Below W3.heap.size W3 W → (Below W3.heap.size W3 W ∧ W.cell? ⟨ws.heap.size, 0, none⟩ = some (.int .i64 t.k) ∧ W.cell? ⟨ws.heap.size, 1, none⟩ = some (.string t.ch) ∧ W.cell? ⟨ws.heap.size, 2, none⟩ = some (.bool t.nt) ∧ W.cell? ⟨ws.heap.size, 3, none⟩ = some (.slice tA t.rows.length tc) ∧ W.cell? ⟨ws.heap.size, 4, none⟩ = some (.int .i64 t.mi) ∧ W.cell? ⟨ws.heap.size, 5, none⟩ = some (.int .i64 t.ma) ∧ W.cell? ⟨ws.heap.size, 6, none⟩ = some (.bool t.lz) ∧ W.cell? ⟨ws.heap.size, 7, none⟩ = some (.slice tB t.kids.length td)) from fun W hb => ⟨hb, cell_later hb x0, cell_later hb x1, cell_later hb x2, cell_later hb x3, cell_later hb x4, cell_later hb x5, cell_later hb x6, cell_later hb x7⟩)
  go_wp2_with fail
  go_region_held3 (fun W => Below W3.heap.size W3 W ∧ W.cell? ⟨ws.heap.size, 0, none⟩ = some (.int .i64 t.k) ∧ W.cell? ⟨ws.heap.size, 1, none⟩ = some (.string t.ch) ∧ W.cell? ⟨ws.heap.size, 2, none⟩ = some (.bool t.nt) ∧ W.cell? ⟨ws.heap.size, 3, none⟩ = some (.slice tA t.rows.length tc) ∧ W.cell? ⟨ws.heap.size, 4, none⟩ = some (.int .i64 t.mi) ∧ W.cell? ⟨ws.heap.size, 5, none⟩ = some (.int .i64 t.ma) ∧ W.cell? ⟨ws.heap.size, 6, none⟩ = some (.bool t.lz) ∧ W.cell? ⟨ws.heap.size, 7, none⟩ = some (.slice tB t.kids.length td))
    (first | (refine HKEEP.out _ ?_; (try go_split_ands); repeat (first | with_reducible assumption | with_reducible exact bl_refl _ | with_reducible refine bl_drew ?_ | with_reducible refine bl_alloc ?_ _)))
    (first
      | (go_at_call 21; go_split_ands; with_reducible refine (HSA.out _ (bl_trans HB13.out (by repeat (first | assumption | exact bl_refl _ | refine bl_drew ?_ | refine bl_alloc ?_ _)))).mono ?_; rintro e w6 ⟨p, he, hb6, hp, hep⟩; obtain ⟨pA, pa, pB, pb, hpr, hpk, hpv⟩ := rx_vv hp; rw [hpv] at he; subst he; have hbx6 : Below W3.heap.size W3 w6 := bl_trans (by repeat (first | assumption | exact bl_refl _ | refine bl_drew ?_ | refine bl_alloc ?_ _)) hb6)
      | (go_at_call 21; go_split_ands; with_reducible refine (HSB.out _ (bl_trans HB13.out (by repeat (first | assumption | exact bl_refl _ | refine bl_drew ?_ | refine bl_alloc ?_ _)))).mono ?_; rintro e w7 ⟨q, he, hb7, hq, heq⟩; obtain ⟨qA, qa, qB, qb, hqr, hqk, hqv⟩ := rx_vv hq; rw [hqv] at he; subst he; have hbx7 : Below W3.heap.size W3 w7 := bl_trans (by repeat (first | assumption | exact bl_refl _ | refine bl_drew ?_ | refine bl_alloc ?_ _)) hb7; have hpp := hp; replace hp : RxAt w7 p := rx_below hp (bl_trans (by repeat (first | assumption | exact bl_refl _ | refine bl_drew ?_ | refine bl_alloc ?_ _)) hb7))
      | (go_at_call 21; go_split_ands; with_reducible refine (HS3.out _ _ _ _ p q (by repeat (first | exact bl_refl _ | refine bl_drew ?_ | refine bl_alloc ?_ _)) (by first | rfl | simp) (by repeat (first | assumption | exact bl_refl _ | refine bl_drew ?_ | refine bl_alloc ?_ _)) (tree_lit2 hpr hpk hqr hqk) (rx_below hp (by repeat (first | assumption | exact bl_refl _ | refine bl_drew ?_ | refine bl_alloc ?_ _))) (rx_below hq (by repeat (first | assumption | exact bl_refl _ | refine bl_drew ?_ | refine bl_alloc ?_ _))) hep heq).mono ?_; rintro e w8 ⟨r, he, hb8, hr, her⟩; obtain ⟨rA, ra, rB, rb, hrr, hrk, hrv⟩ := rx_vv hr; rw [hrv] at he; subst he; have hbx8 : Below W3.heap.size W3 w8 := bl_trans (by repeat (first | assumption | exact bl_refl _ | refine bl_drew ?_ | refine bl_alloc ?_ _)) hb8)
      | (go_at_call 19; go_split_ands; with_reducible refine (HSS.out _ _ _ (by repeat (first | exact bl_refl _ | refine bl_drew ?_ | refine bl_alloc ?_ _)) hr her hbx8 _ hrv).mono ?_; rintro e w9 ⟨rfl, hb9⟩; have hbx9 : Below W3.heap.size W3 w9 := bl_trans (by repeat (first | assumption | exact bl_refl _ | refine bl_drew ?_ | refine bl_alloc ?_ _)) hb9)
      | fail)
  all_goals
    have HB6 := hide hbx9
    clear hbx6 hbx7 hbx8 hbx9 hb6 hb7 hb8 hb9 hp hq hr hep heq her hpr hpk hpv hqr hqk hqv hrr hrk hrv hpp x0 x1 x2 x3 x4 x5 x6 x7 hW3
    by_cases hk0 : k = 0
    · have k0 : decide ((0 : Int) < (k : Int)) = false := decide_eq_false (by omega)
      have k0' : decide (0 < k) = false := decide_eq_false (by omega)
      clear hk0
      go_wp2_with fail
      go_quiet (fail)
      have HB8 := hide (show ∀ n, Below W3.heap.size W3 (w9.drewN n) from fun n => bl_drewN HB6.out n)
      clear hslo hshi
      go_wp2
      go_loopw [9, 10, 11] (fun m d i wr => ∃ (j G D : Nat), m = .int .i64 (G : Int) ∧ d = .int .i64 (D : Int) ∧ i = .int .i64 j ∧ j ≤ L.length ∧ G ≤ 300 ∧ D ≤ 300 ∧ Hid (G = gL (L.take j) ∧ D = dL (L.take j)) ∧ Hid (Below W3.heap.size W3 wr)) (fun _ _ i _ => L.length - (intOf i).toNat)
      case atStart => exact ⟨0, 0, 0, rfl, rfl, rfl, Nat.zero_le _, by omega, by omega, hide ⟨rfl, rfl⟩, hide (HB8.out _)⟩
      case round =>
        obtain ⟨j, G, D, rfl, rfl, rfl, hj, hG, hD, HE, HBL⟩ := hrel
        by_cases hlt : j < L.length
        · obtain ⟨b1, o1, c1', hv1, hc1, hm1, hlb1, hcell1⟩ := ksat_8 HKS.out (by omega)
          injection hv1 with hv1 _ hv1c
          subst hv1 hv1c
          unfold maxLen at hm1
          obtain ⟨q0, q1, q2, q3, q4, q5, q6, q7⟩ := hcell1 j hlt
          have hxp := HRX.out _ (List.getElem_mem hlt)
          have hpl := pL_upto L j hlt
          have hgt := gL_snoc L j hlt
          have hdt := dL_snoc L j hlt
          have hgm := HGD.out.pm
          have hgl := gM_le L[j]
          have hdo := (HGD.out.ok _ (List.getElem_mem hlt)).2
          obtain ⟨p, hp⟩ : ∃ p, L[j] = p := ⟨_, rfl⟩
          rw [hp] at q0 q1 q2 q3 q4 q5 q6 q7 hxp hpl hgt hdt hgl hdo
          obtain ⟨pA, pc, pB, pd, hpr, hpk, hpv⟩ := rx_vv hxp
          rw [hpr] at q3
          rw [hpk] at q7
          have HGP := hide (fun W hb => groups_any hxp (by omega) W hb)
          have HDP := hide (fun W hb => deep_any hxp (by omega) W hb)
          rw [hpv] at HGP HDP
          obtain ⟨gm, hgm2⟩ : ∃ n, gM p = n := ⟨_, rfl⟩
          obtain ⟨dm, hdm2⟩ : ∃ n, dM p = n := ⟨_, rfl⟩
          rw [hgm2] at HGP hgt hgl
          rw [hdm2] at HDP hdt hdo
          have hgle := gL_le (L.take (j + 1))
          have hple := pL_take L (j + 1)
          obtain ⟨E1, E2⟩ := HE.out
          have hg1 : G + gm ≤ 300 := by omega
          obtain ⟨mx, hmx⟩ : ∃ m, max D dm = m := ⟨_, rfl⟩
          have hmx3 : mx ≤ 300 := by omega
          have HE2 := hide (show G + gm = gL (L.take (j + 1)) ∧ mx = dL (L.take (j + 1)) from ⟨by omega, by omega⟩)
          have gl : decide (j < L.length) = true := decide_eq_true hlt
          have gl' : decide ((j : Int) < (L.length : Int)) = true := decide_eq_true (by omega)
          have e5 : IntKind.i64.wrap ((j : Int) + 1) = (j : Int) + 1 := by rw [IntKind.wrap_i64]; have := HL8.out; omega
          have e6 : IntKind.i64.wrap ((G : Int) + (gm : Int)) = ((G + gm : Nat) : Int) := by rw [IntKind.wrap_i64]; omega
          have i1 : (0 : Int) ≤ (j : Int) := by omega
          have i2 : (j : Int) < (L.length : Int) := by omega
          have HB1r := hide (bl_trans HB13.out HBL.out)
          have HQ := hide (show ∀ W, Below w1.heap.size w1 W → W.cell? ⟨b1, o1 + j * 8, none⟩ = some (.int .i64 p.k) ∧ W.cell? ⟨b1, o1 + j * 8 + 1, none⟩ = some (.string p.ch) ∧ W.cell? ⟨b1, o1 + j * 8 + 2, none⟩ = some (.bool p.nt) ∧ W.cell? ⟨b1, o1 + j * 8 + 3, none⟩ = some (.slice pA p.rows.length pc) ∧ W.cell? ⟨b1, o1 + j * 8 + 4, none⟩ = some (.int .i64 p.mi) ∧ W.cell? ⟨b1, o1 + j * 8 + 5, none⟩ = some (.int .i64 p.ma) ∧ W.cell? ⟨b1, o1 + j * 8 + 6, none⟩ = some (.bool p.lz) ∧ W.cell? ⟨b1, o1 + j * 8 + 7, none⟩ = some (.slice pB p.kids.length pd) from fun W hW => ⟨cell_later hW q0, cell_later hW q1, cell_later hW q2, cell_later hW q3, cell_later hW q4, cell_later hW q5, cell_later hW q6, cell_later hW q7⟩)
          have HLT := hide hlt
          have HG1 := hide (And.intro hg1 hmx3)
          have hmi : (max (D : Int) (dm : Int)) = (mx : Int) := by omega
          have hmo : (decide ((dm : Int) < (D : Int)) = true ∧ decide ((D : Int) < (dm : Int)) = false ∧ mx = D) ∨ (decide ((dm : Int) < (D : Int)) = false ∧ decide ((D : Int) < (dm : Int)) = true ∧ mx = dm) ∨ (decide ((dm : Int) < (D : Int)) = false ∧ decide ((D : Int) < (dm : Int)) = false ∧ mx = D) := by
            rcases Nat.lt_trichotomy D dm with h | h | h
            · exact .inr (.inl ⟨decide_eq_false (by omega), decide_eq_true (by omega), by omega⟩)
            · exact .inr (.inr ⟨decide_eq_false (by omega), decide_eq_false (by omega), by omega⟩)
            · exact .inl ⟨decide_eq_true (by omega), decide_eq_false (by omega), by omega⟩
          obtain ⟨ga, hga⟩ : ∃ n, G + gm = n := ⟨_, rfl⟩
          rw [hga] at e6 HE2 HG1
          clear hcell1 hxp hpl hgt hdt hgm hgl hdo hpr hpk hpv hp hgm2 hdm2 hgle hple E1 E2 hg1 hmx hmx3 hj hlt hlb1 hc1 hm1 q0 q1 q2 q3 q4 q5 q6 q7 hga hmo
          obtain ⟨y0, y1, y2, y3, y4, y5, y6, y7⟩ := HQ.out _ HB1r.out
          go_wp2_with fail
          refine (HGP.out _ HB1r.out).mono ?_
          rintro e k2 ⟨rfl, hb2⟩
          have HB2r := hide (bl_trans HB1r.out hb2)
          have HBL2 := hide (bl_trans HBL.out hb2)
          clear hb2 y0 y1 y2 y3 y4 y5 y6 y7
          obtain ⟨y0, y1, y2, y3, y4, y5, y6, y7⟩ := HQ.out _ HB2r.out
          go_wp2_with fail
          refine (HDP.out _ HB2r.out).mono ?_
          rintro e k3 ⟨rfl, hb3⟩
          have HBL3 := hide (bl_trans HBL2.out hb3)
          clear hb3 y0 y1 y2 y3 y4 y5 y6 y7
          go_wp2
          refine ⟨?_, by simp [intOf]; have := HLT.out; omega⟩
          first
            | exact ⟨j + 1, ga, mx, rfl, rfl, rfl, HLT.out, HG1.out.1, HG1.out.2, HE2, HBL3⟩
            | exact ⟨j + 1, ga, mx, rfl, rfl, by simp, HLT.out, HG1.out.1, HG1.out.2, HE2, HBL3⟩
            | exact ⟨j + 1, ga, mx, rfl, by rw [hmi], by simp, HLT.out, HG1.out.1, HG1.out.2, HE2, HBL3⟩
        · obtain rfl : j = L.length := by omega
          have gl : decide (L.length < L.length) = false := decide_eq_false (Nat.lt_irrefl _)
          have gl' : decide ((L.length : Int) < (L.length : Int)) = false := decide_eq_false (by omega)
          have hE := HE.out
          rw [List.take_of_length_le (Nat.le_refl _)] at hE
          have hf0 := dL_flK (k := 0) (.inl rfl) L
          have hf1 := dL_flK (k := 1) (.inr rfl) L
          have hm0 := dM_seqX (flK 0 L)
          have hm1 := dM_altX (flK 1 L)
          have e1 : gM t = G := by rw [← gM_er, HET.out, hm0.2, hf0.2]; exact hE.1.symm
          have e2 : gM u = G := by rw [← gM_er, HEU.out, hm1.2, hf1.2]; exact hE.1.symm
          have e3 : dM t = D := by rw [← dM_er, HET.out, hm0.1, hf0.1]; exact hE.2.symm
          have e4 : dM u = D := by rw [← dM_er, HEU.out, hm1.1, hf1.1]; exact hE.2.symm
          have z1 := HSM.out t 0 L (.inl HET.out) HGD.out.sm
          have z2 := HSM.out u 0 L (.inr HEU.out) HGD.out.sm
          have z3 := pM_sM t
          have z4 := pM_sM u
          have HGT := hide (fun W hb => groups_any HRT3.out (by omega) W hb)
          have HGU := hide (fun W hb => groups_any HRU3.out (by omega) W hb)
          have HDT := hide (fun W hb => deep_any HRT3.out (by omega) W hb)
          have HDU := hide (fun W hb => deep_any HRU3.out (by omega) W hb)
          rw [HTV.out] at HGT HDT
          rw [HUV.out] at HGU HDU
          rw [e1] at HGT
          rw [e2] at HGU
          rw [e3] at HDT
          rw [e4] at HDU
          have HB01 := HBL
          clear hE hf0 hf1 hm0 hm1 e1 e2 e3 e4 z1 z2 z3 z4 hj hlt
          obtain ⟨y0, y1, y2, y3, y4, y5, y6, y7⟩ := (TC.out.bl HB01.out).eight
          obtain ⟨z0, z1, z2, z3, z4, z5, z6, z7⟩ := (UC.out.bl HB01.out).eight
          go_wp2_with fail
          refine (HGT.out _ HB01.out).mono ?_
          rintro e k1 ⟨rfl, hb⟩
          have HB02 := hide (bl_trans HB01.out hb)
          clear hb
          clear y0 y1 y2 y3 y4 y5 y6 y7 z0 z1 z2 z3 z4 z5 z6 z7
          obtain ⟨y0, y1, y2, y3, y4, y5, y6, y7⟩ := (TC.out.bl HB02.out).eight
          obtain ⟨z0, z1, z2, z3, z4, z5, z6, z7⟩ := (UC.out.bl HB02.out).eight
          go_wp2_with fail
          refine (HGU.out _ HB02.out).mono ?_
          rintro e k2 ⟨rfl, hb⟩
          have HB03 := hide (bl_trans HB02.out hb)
          clear hb
          clear y0 y1 y2 y3 y4 y5 y6 y7 z0 z1 z2 z3 z4 z5 z6 z7
          obtain ⟨y0, y1, y2, y3, y4, y5, y6, y7⟩ := (TC.out.bl HB03.out).eight
          obtain ⟨z0, z1, z2, z3, z4, z5, z6, z7⟩ := (UC.out.bl HB03.out).eight
          go_wp2_with fail
          refine (HDT.out _ HB03.out).mono ?_
          rintro e k3 ⟨rfl, hb⟩
          have HB04 := hide (bl_trans HB03.out hb)
          clear hb
          clear y0 y1 y2 y3 y4 y5 y6 y7 z0 z1 z2 z3 z4 z5 z6 z7
          obtain ⟨y0, y1, y2, y3, y4, y5, y6, y7⟩ := (TC.out.bl HB04.out).eight
          obtain ⟨z0, z1, z2, z3, z4, z5, z6, z7⟩ := (UC.out.bl HB04.out).eight
          go_wp2_with fail
          refine (HDU.out _ HB04.out).mono ?_
          rintro e k4 ⟨rfl, hb⟩
          have HB05 := hide (bl_trans HB04.out hb)
          clear hb
          clear y0 y1 y2 y3 y4 y5 y6 y7 z0 z1 z2 z3 z4 z5 z6 z7
          go_wp2_with fail
          refine (awake13_any _).mono ?_
          rintro e w99 ⟨rfl, hb99⟩
          have HBE := hide (bl_trans (bl_trans HB1.out (bl_trans HB13.out HB05.out)) hb99)
          clear hb99
          go_wp2
          go_ret
          exact ⟨rfl, HBE.out⟩
    by_cases hkn : k = L.length
    · have k0 : decide ((0 : Int) < (k : Int)) = true := decide_eq_true (by omega)
      have k0' : decide (0 < k) = true := decide_eq_true (by omega)
      have kl : decide ((k : Int) < (L.length : Int)) = false := decide_eq_false (by omega)
      have kl' : decide (k < L.length) = false := decide_eq_false (by omega)
      clear hk0 hkn
      go_wp2_with fail
      go_quiet (fail)
      have HB8 := hide (show ∀ n, Below W3.heap.size W3 (w9.drewN n) from fun n => bl_drewN HB6.out n)
      clear hslo hshi
      go_wp2
      go_loopw [9, 10, 11] (fun m d i wr => ∃ (j G D : Nat), m = .int .i64 (G : Int) ∧ d = .int .i64 (D : Int) ∧ i = .int .i64 j ∧ j ≤ L.length ∧ G ≤ 300 ∧ D ≤ 300 ∧ Hid (G = gL (L.take j) ∧ D = dL (L.take j)) ∧ Hid (Below W3.heap.size W3 wr)) (fun _ _ i _ => L.length - (intOf i).toNat)
      case atStart => exact ⟨0, 0, 0, rfl, rfl, rfl, Nat.zero_le _, by omega, by omega, hide ⟨rfl, rfl⟩, hide (HB8.out _)⟩
      case round =>
        obtain ⟨j, G, D, rfl, rfl, rfl, hj, hG, hD, HE, HBL⟩ := hrel
        by_cases hlt : j < L.length
        · obtain ⟨b1, o1, c1', hv1, hc1, hm1, hlb1, hcell1⟩ := ksat_8 HKS.out (by omega)
          injection hv1 with hv1 _ hv1c
          subst hv1 hv1c
          unfold maxLen at hm1
          obtain ⟨q0, q1, q2, q3, q4, q5, q6, q7⟩ := hcell1 j hlt
          have hxp := HRX.out _ (List.getElem_mem hlt)
          have hpl := pL_upto L j hlt
          have hgt := gL_snoc L j hlt
          have hdt := dL_snoc L j hlt
          have hgm := HGD.out.pm
          have hgl := gM_le L[j]
          have hdo := (HGD.out.ok _ (List.getElem_mem hlt)).2
          obtain ⟨p, hp⟩ : ∃ p, L[j] = p := ⟨_, rfl⟩
          rw [hp] at q0 q1 q2 q3 q4 q5 q6 q7 hxp hpl hgt hdt hgl hdo
          obtain ⟨pA, pc, pB, pd, hpr, hpk, hpv⟩ := rx_vv hxp
          rw [hpr] at q3
          rw [hpk] at q7
          have HGP := hide (fun W hb => groups_any hxp (by omega) W hb)
          have HDP := hide (fun W hb => deep_any hxp (by omega) W hb)
          rw [hpv] at HGP HDP
          obtain ⟨gm, hgm2⟩ : ∃ n, gM p = n := ⟨_, rfl⟩
          obtain ⟨dm, hdm2⟩ : ∃ n, dM p = n := ⟨_, rfl⟩
          rw [hgm2] at HGP hgt hgl
          rw [hdm2] at HDP hdt hdo
          have hgle := gL_le (L.take (j + 1))
          have hple := pL_take L (j + 1)
          obtain ⟨E1, E2⟩ := HE.out
          have hg1 : G + gm ≤ 300 := by omega
          obtain ⟨mx, hmx⟩ : ∃ m, max D dm = m := ⟨_, rfl⟩
          have hmx3 : mx ≤ 300 := by omega
          have HE2 := hide (show G + gm = gL (L.take (j + 1)) ∧ mx = dL (L.take (j + 1)) from ⟨by omega, by omega⟩)
          have gl : decide (j < L.length) = true := decide_eq_true hlt
          have gl' : decide ((j : Int) < (L.length : Int)) = true := decide_eq_true (by omega)
          have e5 : IntKind.i64.wrap ((j : Int) + 1) = (j : Int) + 1 := by rw [IntKind.wrap_i64]; have := HL8.out; omega
          have e6 : IntKind.i64.wrap ((G : Int) + (gm : Int)) = ((G + gm : Nat) : Int) := by rw [IntKind.wrap_i64]; omega
          have i1 : (0 : Int) ≤ (j : Int) := by omega
          have i2 : (j : Int) < (L.length : Int) := by omega
          have HB1r := hide (bl_trans HB13.out HBL.out)
          have HQ := hide (show ∀ W, Below w1.heap.size w1 W → W.cell? ⟨b1, o1 + j * 8, none⟩ = some (.int .i64 p.k) ∧ W.cell? ⟨b1, o1 + j * 8 + 1, none⟩ = some (.string p.ch) ∧ W.cell? ⟨b1, o1 + j * 8 + 2, none⟩ = some (.bool p.nt) ∧ W.cell? ⟨b1, o1 + j * 8 + 3, none⟩ = some (.slice pA p.rows.length pc) ∧ W.cell? ⟨b1, o1 + j * 8 + 4, none⟩ = some (.int .i64 p.mi) ∧ W.cell? ⟨b1, o1 + j * 8 + 5, none⟩ = some (.int .i64 p.ma) ∧ W.cell? ⟨b1, o1 + j * 8 + 6, none⟩ = some (.bool p.lz) ∧ W.cell? ⟨b1, o1 + j * 8 + 7, none⟩ = some (.slice pB p.kids.length pd) from fun W hW => ⟨cell_later hW q0, cell_later hW q1, cell_later hW q2, cell_later hW q3, cell_later hW q4, cell_later hW q5, cell_later hW q6, cell_later hW q7⟩)
          have HLT := hide hlt
          have HG1 := hide (And.intro hg1 hmx3)
          have hmi : (max (D : Int) (dm : Int)) = (mx : Int) := by omega
          have hmo : (decide ((dm : Int) < (D : Int)) = true ∧ decide ((D : Int) < (dm : Int)) = false ∧ mx = D) ∨ (decide ((dm : Int) < (D : Int)) = false ∧ decide ((D : Int) < (dm : Int)) = true ∧ mx = dm) ∨ (decide ((dm : Int) < (D : Int)) = false ∧ decide ((D : Int) < (dm : Int)) = false ∧ mx = D) := by
            rcases Nat.lt_trichotomy D dm with h | h | h
            · exact .inr (.inl ⟨decide_eq_false (by omega), decide_eq_true (by omega), by omega⟩)
            · exact .inr (.inr ⟨decide_eq_false (by omega), decide_eq_false (by omega), by omega⟩)
            · exact .inl ⟨decide_eq_true (by omega), decide_eq_false (by omega), by omega⟩
          obtain ⟨ga, hga⟩ : ∃ n, G + gm = n := ⟨_, rfl⟩
          rw [hga] at e6 HE2 HG1
          clear hcell1 hxp hpl hgt hdt hgm hgl hdo hpr hpk hpv hp hgm2 hdm2 hgle hple E1 E2 hg1 hmx hmx3 hj hlt hlb1 hc1 hm1 q0 q1 q2 q3 q4 q5 q6 q7 hga hmo
          obtain ⟨y0, y1, y2, y3, y4, y5, y6, y7⟩ := HQ.out _ HB1r.out
          go_wp2_with fail
          refine (HGP.out _ HB1r.out).mono ?_
          rintro e k2 ⟨rfl, hb2⟩
          have HB2r := hide (bl_trans HB1r.out hb2)
          have HBL2 := hide (bl_trans HBL.out hb2)
          clear hb2 y0 y1 y2 y3 y4 y5 y6 y7
          obtain ⟨y0, y1, y2, y3, y4, y5, y6, y7⟩ := HQ.out _ HB2r.out
          go_wp2_with fail
          refine (HDP.out _ HB2r.out).mono ?_
          rintro e k3 ⟨rfl, hb3⟩
          have HBL3 := hide (bl_trans HBL2.out hb3)
          clear hb3 y0 y1 y2 y3 y4 y5 y6 y7
          go_wp2
          refine ⟨?_, by simp [intOf]; have := HLT.out; omega⟩
          first
            | exact ⟨j + 1, ga, mx, rfl, rfl, rfl, HLT.out, HG1.out.1, HG1.out.2, HE2, HBL3⟩
            | exact ⟨j + 1, ga, mx, rfl, rfl, by simp, HLT.out, HG1.out.1, HG1.out.2, HE2, HBL3⟩
            | exact ⟨j + 1, ga, mx, rfl, by rw [hmi], by simp, HLT.out, HG1.out.1, HG1.out.2, HE2, HBL3⟩
        · obtain rfl : j = L.length := by omega
          have gl : decide (L.length < L.length) = false := decide_eq_false (Nat.lt_irrefl _)
          have gl' : decide ((L.length : Int) < (L.length : Int)) = false := decide_eq_false (by omega)
          have hE := HE.out
          rw [List.take_of_length_le (Nat.le_refl _)] at hE
          have hf0 := dL_flK (k := 0) (.inl rfl) L
          have hf1 := dL_flK (k := 1) (.inr rfl) L
          have hm0 := dM_seqX (flK 0 L)
          have hm1 := dM_altX (flK 1 L)
          have e1 : gM t = G := by rw [← gM_er, HET.out, hm0.2, hf0.2]; exact hE.1.symm
          have e2 : gM u = G := by rw [← gM_er, HEU.out, hm1.2, hf1.2]; exact hE.1.symm
          have e3 : dM t = D := by rw [← dM_er, HET.out, hm0.1, hf0.1]; exact hE.2.symm
          have e4 : dM u = D := by rw [← dM_er, HEU.out, hm1.1, hf1.1]; exact hE.2.symm
          have z1 := HSM.out t 0 L (.inl HET.out) HGD.out.sm
          have z2 := HSM.out u 0 L (.inr HEU.out) HGD.out.sm
          have z3 := pM_sM t
          have z4 := pM_sM u
          have HGT := hide (fun W hb => groups_any HRT3.out (by omega) W hb)
          have HGU := hide (fun W hb => groups_any HRU3.out (by omega) W hb)
          have HDT := hide (fun W hb => deep_any HRT3.out (by omega) W hb)
          have HDU := hide (fun W hb => deep_any HRU3.out (by omega) W hb)
          rw [HTV.out] at HGT HDT
          rw [HUV.out] at HGU HDU
          rw [e1] at HGT
          rw [e2] at HGU
          rw [e3] at HDT
          rw [e4] at HDU
          have HB01 := HBL
          clear hE hf0 hf1 hm0 hm1 e1 e2 e3 e4 z1 z2 z3 z4 hj hlt
          obtain ⟨y0, y1, y2, y3, y4, y5, y6, y7⟩ := (TC.out.bl HB01.out).eight
          obtain ⟨z0, z1, z2, z3, z4, z5, z6, z7⟩ := (UC.out.bl HB01.out).eight
          go_wp2_with fail
          refine (HGT.out _ HB01.out).mono ?_
          rintro e k1 ⟨rfl, hb⟩
          have HB02 := hide (bl_trans HB01.out hb)
          clear hb
          clear y0 y1 y2 y3 y4 y5 y6 y7 z0 z1 z2 z3 z4 z5 z6 z7
          obtain ⟨y0, y1, y2, y3, y4, y5, y6, y7⟩ := (TC.out.bl HB02.out).eight
          obtain ⟨z0, z1, z2, z3, z4, z5, z6, z7⟩ := (UC.out.bl HB02.out).eight
          go_wp2_with fail
          refine (HGU.out _ HB02.out).mono ?_
          rintro e k2 ⟨rfl, hb⟩
          have HB03 := hide (bl_trans HB02.out hb)
          clear hb
          clear y0 y1 y2 y3 y4 y5 y6 y7 z0 z1 z2 z3 z4 z5 z6 z7
          obtain ⟨y0, y1, y2, y3, y4, y5, y6, y7⟩ := (TC.out.bl HB03.out).eight
          obtain ⟨z0, z1, z2, z3, z4, z5, z6, z7⟩ := (UC.out.bl HB03.out).eight
          go_wp2_with fail
          refine (HDT.out _ HB03.out).mono ?_
          rintro e k3 ⟨rfl, hb⟩
          have HB04 := hide (bl_trans HB03.out hb)
          clear hb
          clear y0 y1 y2 y3 y4 y5 y6 y7 z0 z1 z2 z3 z4 z5 z6 z7
          obtain ⟨y0, y1, y2, y3, y4, y5, y6, y7⟩ := (TC.out.bl HB04.out).eight
          obtain ⟨z0, z1, z2, z3, z4, z5, z6, z7⟩ := (UC.out.bl HB04.out).eight
          go_wp2_with fail
          refine (HDU.out _ HB04.out).mono ?_
          rintro e k4 ⟨rfl, hb⟩
          have HB05 := hide (bl_trans HB04.out hb)
          clear hb
          clear y0 y1 y2 y3 y4 y5 y6 y7 z0 z1 z2 z3 z4 z5 z6 z7
          go_wp2_with fail
          refine (awake13_any _).mono ?_
          rintro e w99 ⟨rfl, hb99⟩
          have HBE := hide (bl_trans (bl_trans HB1.out (bl_trans HB13.out HB05.out)) hb99)
          clear hb99
          go_wp2
          go_ret
          exact ⟨rfl, HBE.out⟩
    have hk1 : 0 < k ∧ k < L.length := by have := HKL.out; omega
    have HKP := hide hk1
    have hsm := HSM.out
    have hs1 := HSMM.out.1
    have hs2 := HSMM.out.2
    have HA3 := hide (fun (V W : World) (n : Nat) (arr : Array Value) (p q : Rt) (h1 : Below (V.alloc (.cells arr 25)).heap.size (V.alloc (.cells arr 25)) W) (h2 : n = V.heap.size) (h3 : Below W3.heap.size W3 V) (ha : arr.toList = p.cs ++ q.cs) (hp : RxAt V p) (hq : RxAt V q) (ep : er p = altX (flK 1 (L.take k))) (eq : er q = altX (flK 1 (L.drop k))) => (show Calls Try.prog 23 #[.slice (some ⟨n, 0, none⟩) 2 2] W (fun e w' => ∃ t', e = .returned t'.v ∧ Below W.heap.size W w' ∧ RxAt w' t' ∧ er t' = altX (flK 1 L)) from by
      subst h2
      obtain ⟨g1, g2⟩ := ks_two ha hp hq h1
      have := alt_any _ _ _ g1 g2 (by have z1 := hsm p 0 _ (.inr ep) hs1; have z2 := hsm q 0 _ (.inr eq) hs2; simp only [sL]; omega)
      unfold SqPost at this
      rw [alt_halves HGD.out.ok k HKP.out.1 HKP.out.2 ep eq] at this
      exact this))
    have HAS := hide (fun (V W : World) (q : Rt) (h1 : Below V.heap.size V W) (hq : RxAt V q) (he : er q = altX (flK 1 L)) (h3 : Below W3.heap.size W3 V) (A : Value) (hA : q.v = A) => (show Calls Try.prog 19 #[A, .agg #[.int .i64 u.k, .string u.ch, .bool u.nt, .slice uA u.rows.length uc, .int .i64 u.mi, .int .i64 u.ma, .bool u.lz, .slice uB u.kids.length ud]] W (fun e w' => e = .returned (.bool true) ∧ Below W.heap.size W w') from by
      have hh := same_any hq (rx_below HRU3.out h3) W h1
      rw [sameM_of (he.trans HEU.out.symm), hA, HUV.out] at hh
      exact hh))
    obtain ⟨y0, y1, y2, y3, y4, y5, y6, y7⟩ := UC.out.eight
    have k0 : decide ((0 : Int) < (k : Int)) = true := decide_eq_true (by omega)
    have k0' : decide (0 < k) = true := decide_eq_true hk1.1
    have kl : decide ((k : Int) < (L.length : Int)) = true := decide_eq_true (by omega)
    have kl' : decide (k < L.length) = true := decide_eq_true hk1.2
    clear hsm hs1 hs2 hk1 hk0 hkn
    have HKEEP := hide (show ∀ W, Below W3.heap.size W3 W → (Below W3.heap.size W3 W ∧ W.cell? ⟨ws.heap.size + 1, 0, none⟩ = some (.int .i64 u.k) ∧ W.cell? ⟨ws.heap.size + 1, 1, none⟩ = some (.string u.ch) ∧ W.cell? ⟨ws.heap.size + 1, 2, none⟩ = some (.bool u.nt) ∧ W.cell? ⟨ws.heap.size + 1, 3, none⟩ = some (.slice uA u.rows.length uc) ∧ W.cell? ⟨ws.heap.size + 1, 4, none⟩ = some (.int .i64 u.mi) ∧ W.cell? ⟨ws.heap.size + 1, 5, none⟩ = some (.int .i64 u.ma) ∧ W.cell? ⟨ws.heap.size + 1, 6, none⟩ = some (.bool u.lz) ∧ W.cell? ⟨ws.heap.size + 1, 7, none⟩ = some (.slice uB u.kids.length ud)) from fun W hb => ⟨hb, cell_later hb y0, cell_later hb y1, cell_later hb y2, cell_later hb y3, cell_later hb y4, cell_later hb y5, cell_later hb y6, cell_later hb y7⟩)
    have hbb := HB6.out
    clear y0 y1 y2 y3 y4 y5 y6 y7
    go_wp2_with fail
    go_region_held3 (fun W => Below W3.heap.size W3 W ∧ W.cell? ⟨ws.heap.size + 1, 0, none⟩ = some (.int .i64 u.k) ∧ W.cell? ⟨ws.heap.size + 1, 1, none⟩ = some (.string u.ch) ∧ W.cell? ⟨ws.heap.size + 1, 2, none⟩ = some (.bool u.nt) ∧ W.cell? ⟨ws.heap.size + 1, 3, none⟩ = some (.slice uA u.rows.length uc) ∧ W.cell? ⟨ws.heap.size + 1, 4, none⟩ = some (.int .i64 u.mi) ∧ W.cell? ⟨ws.heap.size + 1, 5, none⟩ = some (.int .i64 u.ma) ∧ W.cell? ⟨ws.heap.size + 1, 6, none⟩ = some (.bool u.lz) ∧ W.cell? ⟨ws.heap.size + 1, 7, none⟩ = some (.slice uB u.kids.length ud))
      (first | (refine HKEEP.out _ ?_; (try go_split_ands); repeat (first | with_reducible assumption | with_reducible exact bl_refl _ | with_reducible refine bl_drew ?_ | with_reducible refine bl_alloc ?_ _)))
      (first
        | (go_at_call 23; go_split_ands; with_reducible refine (HAA.out _ (bl_trans HB13.out (by repeat (first | assumption | exact bl_refl _ | refine bl_drew ?_ | refine bl_alloc ?_ _)))).mono ?_; rintro e w6 ⟨p, he, hb6, hp, hep⟩; obtain ⟨pA, pa, pB, pb, hpr, hpk, hpv⟩ := rx_vv hp; rw [hpv] at he; subst he; have hbx6 : Below W3.heap.size W3 w6 := bl_trans (by repeat (first | assumption | exact bl_refl _ | refine bl_drew ?_ | refine bl_alloc ?_ _)) hb6)
        | (go_at_call 23; go_split_ands; with_reducible refine (HAB.out _ (bl_trans HB13.out (by repeat (first | assumption | exact bl_refl _ | refine bl_drew ?_ | refine bl_alloc ?_ _)))).mono ?_; rintro e w7 ⟨q, he, hb7, hq, heq⟩; obtain ⟨qA, qa, qB, qb, hqr, hqk, hqv⟩ := rx_vv hq; rw [hqv] at he; subst he; have hbx7 : Below W3.heap.size W3 w7 := bl_trans (by repeat (first | assumption | exact bl_refl _ | refine bl_drew ?_ | refine bl_alloc ?_ _)) hb7; have hpp := hp; replace hp : RxAt w7 p := rx_below hp (bl_trans (by repeat (first | assumption | exact bl_refl _ | refine bl_drew ?_ | refine bl_alloc ?_ _)) hb7))
        | (go_at_call 23; go_split_ands; with_reducible refine (HA3.out _ _ _ _ p q (by repeat (first | exact bl_refl _ | refine bl_drew ?_ | refine bl_alloc ?_ _)) (by first | rfl | simp) (by repeat (first | assumption | exact bl_refl _ | refine bl_drew ?_ | refine bl_alloc ?_ _)) (tree_lit2 hpr hpk hqr hqk) (rx_below hp (by repeat (first | assumption | exact bl_refl _ | refine bl_drew ?_ | refine bl_alloc ?_ _))) (rx_below hq (by repeat (first | assumption | exact bl_refl _ | refine bl_drew ?_ | refine bl_alloc ?_ _))) hep heq).mono ?_; rintro e w8 ⟨r, he, hb8, hr, her⟩; obtain ⟨rA, ra, rB, rb, hrr, hrk, hrv⟩ := rx_vv hr; rw [hrv] at he; subst he; have hbx8 : Below W3.heap.size W3 w8 := bl_trans (by repeat (first | assumption | exact bl_refl _ | refine bl_drew ?_ | refine bl_alloc ?_ _)) hb8)
        | (go_at_call 19; go_split_ands; with_reducible refine (HAS.out _ _ _ (by repeat (first | exact bl_refl _ | refine bl_drew ?_ | refine bl_alloc ?_ _)) hr her hbx8 _ hrv).mono ?_; rintro e w9 ⟨rfl, hb9⟩; have hbx9 : Below W3.heap.size W3 w9 := bl_trans (by repeat (first | assumption | exact bl_refl _ | refine bl_drew ?_ | refine bl_alloc ?_ _)) hb9)
        | fail)
    all_goals
      have HB8 := hide hbx9
      clear hbx6 hbx7 hbx8 hbx9 hb6 hb7 hb8 hb9 hp hq hr hep heq her hpr hpk hpv hqr hqk hqv hrr hrk hrv hpp hbb k0 k0' kl kl' hslo hshi
      go_wp2
      go_loopw [9, 10, 11] (fun m d i wr => ∃ (j G D : Nat), m = .int .i64 (G : Int) ∧ d = .int .i64 (D : Int) ∧ i = .int .i64 j ∧ j ≤ L.length ∧ G ≤ 300 ∧ D ≤ 300 ∧ Hid (G = gL (L.take j) ∧ D = dL (L.take j)) ∧ Hid (Below W3.heap.size W3 wr)) (fun _ _ i _ => L.length - (intOf i).toNat)
      case atStart => exact ⟨0, 0, 0, rfl, rfl, rfl, Nat.zero_le _, by omega, by omega, hide ⟨rfl, rfl⟩, HB8⟩
      case round =>
        obtain ⟨j, G, D, rfl, rfl, rfl, hj, hG, hD, HE, HBL⟩ := hrel
        by_cases hlt : j < L.length
        · obtain ⟨b1, o1, c1', hv1, hc1, hm1, hlb1, hcell1⟩ := ksat_8 HKS.out (by omega)
          injection hv1 with hv1 _ hv1c
          subst hv1 hv1c
          unfold maxLen at hm1
          obtain ⟨q0, q1, q2, q3, q4, q5, q6, q7⟩ := hcell1 j hlt
          have hxp := HRX.out _ (List.getElem_mem hlt)
          have hpl := pL_upto L j hlt
          have hgt := gL_snoc L j hlt
          have hdt := dL_snoc L j hlt
          have hgm := HGD.out.pm
          have hgl := gM_le L[j]
          have hdo := (HGD.out.ok _ (List.getElem_mem hlt)).2
          obtain ⟨p, hp⟩ : ∃ p, L[j] = p := ⟨_, rfl⟩
          rw [hp] at q0 q1 q2 q3 q4 q5 q6 q7 hxp hpl hgt hdt hgl hdo
          obtain ⟨pA, pc, pB, pd, hpr, hpk, hpv⟩ := rx_vv hxp
          rw [hpr] at q3
          rw [hpk] at q7
          have HGP := hide (fun W hb => groups_any hxp (by omega) W hb)
          have HDP := hide (fun W hb => deep_any hxp (by omega) W hb)
          rw [hpv] at HGP HDP
          obtain ⟨gm, hgm2⟩ : ∃ n, gM p = n := ⟨_, rfl⟩
          obtain ⟨dm, hdm2⟩ : ∃ n, dM p = n := ⟨_, rfl⟩
          rw [hgm2] at HGP hgt hgl
          rw [hdm2] at HDP hdt hdo
          have hgle := gL_le (L.take (j + 1))
          have hple := pL_take L (j + 1)
          obtain ⟨E1, E2⟩ := HE.out
          have hg1 : G + gm ≤ 300 := by omega
          obtain ⟨mx, hmx⟩ : ∃ m, max D dm = m := ⟨_, rfl⟩
          have hmx3 : mx ≤ 300 := by omega
          have HE2 := hide (show G + gm = gL (L.take (j + 1)) ∧ mx = dL (L.take (j + 1)) from ⟨by omega, by omega⟩)
          have gl : decide (j < L.length) = true := decide_eq_true hlt
          have gl' : decide ((j : Int) < (L.length : Int)) = true := decide_eq_true (by omega)
          have e5 : IntKind.i64.wrap ((j : Int) + 1) = (j : Int) + 1 := by rw [IntKind.wrap_i64]; have := HL8.out; omega
          have e6 : IntKind.i64.wrap ((G : Int) + (gm : Int)) = ((G + gm : Nat) : Int) := by rw [IntKind.wrap_i64]; omega
          have i1 : (0 : Int) ≤ (j : Int) := by omega
          have i2 : (j : Int) < (L.length : Int) := by omega
          have HB1r := hide (bl_trans HB13.out HBL.out)
          have HQ := hide (show ∀ W, Below w1.heap.size w1 W → W.cell? ⟨b1, o1 + j * 8, none⟩ = some (.int .i64 p.k) ∧ W.cell? ⟨b1, o1 + j * 8 + 1, none⟩ = some (.string p.ch) ∧ W.cell? ⟨b1, o1 + j * 8 + 2, none⟩ = some (.bool p.nt) ∧ W.cell? ⟨b1, o1 + j * 8 + 3, none⟩ = some (.slice pA p.rows.length pc) ∧ W.cell? ⟨b1, o1 + j * 8 + 4, none⟩ = some (.int .i64 p.mi) ∧ W.cell? ⟨b1, o1 + j * 8 + 5, none⟩ = some (.int .i64 p.ma) ∧ W.cell? ⟨b1, o1 + j * 8 + 6, none⟩ = some (.bool p.lz) ∧ W.cell? ⟨b1, o1 + j * 8 + 7, none⟩ = some (.slice pB p.kids.length pd) from fun W hW => ⟨cell_later hW q0, cell_later hW q1, cell_later hW q2, cell_later hW q3, cell_later hW q4, cell_later hW q5, cell_later hW q6, cell_later hW q7⟩)
          have HLT := hide hlt
          have HG1 := hide (And.intro hg1 hmx3)
          have hmi : (max (D : Int) (dm : Int)) = (mx : Int) := by omega
          have hmo : (decide ((dm : Int) < (D : Int)) = true ∧ decide ((D : Int) < (dm : Int)) = false ∧ mx = D) ∨ (decide ((dm : Int) < (D : Int)) = false ∧ decide ((D : Int) < (dm : Int)) = true ∧ mx = dm) ∨ (decide ((dm : Int) < (D : Int)) = false ∧ decide ((D : Int) < (dm : Int)) = false ∧ mx = D) := by
            rcases Nat.lt_trichotomy D dm with h | h | h
            · exact .inr (.inl ⟨decide_eq_false (by omega), decide_eq_true (by omega), by omega⟩)
            · exact .inr (.inr ⟨decide_eq_false (by omega), decide_eq_false (by omega), by omega⟩)
            · exact .inl ⟨decide_eq_true (by omega), decide_eq_false (by omega), by omega⟩
          obtain ⟨ga, hga⟩ : ∃ n, G + gm = n := ⟨_, rfl⟩
          rw [hga] at e6 HE2 HG1
          clear hcell1 hxp hpl hgt hdt hgm hgl hdo hpr hpk hpv hp hgm2 hdm2 hgle hple E1 E2 hg1 hmx hmx3 hj hlt hlb1 hc1 hm1 q0 q1 q2 q3 q4 q5 q6 q7 hga hmo
          obtain ⟨y0, y1, y2, y3, y4, y5, y6, y7⟩ := HQ.out _ HB1r.out
          go_wp2_with fail
          refine (HGP.out _ HB1r.out).mono ?_
          rintro e k2 ⟨rfl, hb2⟩
          have HB2r := hide (bl_trans HB1r.out hb2)
          have HBL2 := hide (bl_trans HBL.out hb2)
          clear hb2 y0 y1 y2 y3 y4 y5 y6 y7
          obtain ⟨y0, y1, y2, y3, y4, y5, y6, y7⟩ := HQ.out _ HB2r.out
          go_wp2_with fail
          refine (HDP.out _ HB2r.out).mono ?_
          rintro e k3 ⟨rfl, hb3⟩
          have HBL3 := hide (bl_trans HBL2.out hb3)
          clear hb3 y0 y1 y2 y3 y4 y5 y6 y7
          go_wp2
          refine ⟨?_, by simp [intOf]; have := HLT.out; omega⟩
          first
            | exact ⟨j + 1, ga, mx, rfl, rfl, rfl, HLT.out, HG1.out.1, HG1.out.2, HE2, HBL3⟩
            | exact ⟨j + 1, ga, mx, rfl, rfl, by simp, HLT.out, HG1.out.1, HG1.out.2, HE2, HBL3⟩
            | exact ⟨j + 1, ga, mx, rfl, by rw [hmi], by simp, HLT.out, HG1.out.1, HG1.out.2, HE2, HBL3⟩
        · obtain rfl : j = L.length := by omega
          have gl : decide (L.length < L.length) = false := decide_eq_false (Nat.lt_irrefl _)
          have gl' : decide ((L.length : Int) < (L.length : Int)) = false := decide_eq_false (by omega)
          have hE := HE.out
          rw [List.take_of_length_le (Nat.le_refl _)] at hE
          have hf0 := dL_flK (k := 0) (.inl rfl) L
          have hf1 := dL_flK (k := 1) (.inr rfl) L
          have hm0 := dM_seqX (flK 0 L)
          have hm1 := dM_altX (flK 1 L)
          have e1 : gM t = G := by rw [← gM_er, HET.out, hm0.2, hf0.2]; exact hE.1.symm
          have e2 : gM u = G := by rw [← gM_er, HEU.out, hm1.2, hf1.2]; exact hE.1.symm
          have e3 : dM t = D := by rw [← dM_er, HET.out, hm0.1, hf0.1]; exact hE.2.symm
          have e4 : dM u = D := by rw [← dM_er, HEU.out, hm1.1, hf1.1]; exact hE.2.symm
          have z1 := HSM.out t 0 L (.inl HET.out) HGD.out.sm
          have z2 := HSM.out u 0 L (.inr HEU.out) HGD.out.sm
          have z3 := pM_sM t
          have z4 := pM_sM u
          have HGT := hide (fun W hb => groups_any HRT3.out (by omega) W hb)
          have HGU := hide (fun W hb => groups_any HRU3.out (by omega) W hb)
          have HDT := hide (fun W hb => deep_any HRT3.out (by omega) W hb)
          have HDU := hide (fun W hb => deep_any HRU3.out (by omega) W hb)
          rw [HTV.out] at HGT HDT
          rw [HUV.out] at HGU HDU
          rw [e1] at HGT
          rw [e2] at HGU
          rw [e3] at HDT
          rw [e4] at HDU
          have HB01 := HBL
          clear hE hf0 hf1 hm0 hm1 e1 e2 e3 e4 z1 z2 z3 z4 hj hlt
          obtain ⟨y0, y1, y2, y3, y4, y5, y6, y7⟩ := (TC.out.bl HB01.out).eight
          obtain ⟨z0, z1, z2, z3, z4, z5, z6, z7⟩ := (UC.out.bl HB01.out).eight
          go_wp2_with fail
          refine (HGT.out _ HB01.out).mono ?_
          rintro e k1 ⟨rfl, hb⟩
          have HB02 := hide (bl_trans HB01.out hb)
          clear hb
          clear y0 y1 y2 y3 y4 y5 y6 y7 z0 z1 z2 z3 z4 z5 z6 z7
          obtain ⟨y0, y1, y2, y3, y4, y5, y6, y7⟩ := (TC.out.bl HB02.out).eight
          obtain ⟨z0, z1, z2, z3, z4, z5, z6, z7⟩ := (UC.out.bl HB02.out).eight
          go_wp2_with fail
          refine (HGU.out _ HB02.out).mono ?_
          rintro e k2 ⟨rfl, hb⟩
          have HB03 := hide (bl_trans HB02.out hb)
          clear hb
          clear y0 y1 y2 y3 y4 y5 y6 y7 z0 z1 z2 z3 z4 z5 z6 z7
          obtain ⟨y0, y1, y2, y3, y4, y5, y6, y7⟩ := (TC.out.bl HB03.out).eight
          obtain ⟨z0, z1, z2, z3, z4, z5, z6, z7⟩ := (UC.out.bl HB03.out).eight
          go_wp2_with fail
          refine (HDT.out _ HB03.out).mono ?_
          rintro e k3 ⟨rfl, hb⟩
          have HB04 := hide (bl_trans HB03.out hb)
          clear hb
          clear y0 y1 y2 y3 y4 y5 y6 y7 z0 z1 z2 z3 z4 z5 z6 z7
          obtain ⟨y0, y1, y2, y3, y4, y5, y6, y7⟩ := (TC.out.bl HB04.out).eight
          obtain ⟨z0, z1, z2, z3, z4, z5, z6, z7⟩ := (UC.out.bl HB04.out).eight
          go_wp2_with fail
          refine (HDU.out _ HB04.out).mono ?_
          rintro e k4 ⟨rfl, hb⟩
          have HB05 := hide (bl_trans HB04.out hb)
          clear hb
          clear y0 y1 y2 y3 y4 y5 y6 y7 z0 z1 z2 z3 z4 z5 z6 z7
          go_wp2_with fail
          refine (awake13_any _).mono ?_
          rintro e w99 ⟨rfl, hb99⟩
          have HBE := hide (bl_trans (bl_trans HB1.out (bl_trans HB13.out HB05.out)) hb99)
          clear hb99
          go_wp2
          go_ret
          exact ⟨rfl, HBE.out⟩

set_option maxRecDepth 100000 in
theorem lifted (os : Os) (started : os.Started) (H : Type) (enc : TypeId × Value → H) :
    ReturnsInHanded {} Try.checked os 7 .any (Rows.seqTwiceSpec.pre6 enc Try.prog Try.f7 Rows.seqTwiceRow.domain false) (Rows.seqTwiceSpec.post enc Try.prog Try.f7 false true false false) := by
  refine returnsInHanded_of_change (C := Try.checked) own started (by kernel_rfl) Try.func7
    (ChangeSpec.witness6 (enc := enc) (C := Try.checked) false ⟨#[], #[.slice none 0 0, .int .i64 0], []⟩ 8 (by kernel_rfl) (by kernel_rfl) (by kernel_rfl) (by kernel_rfl)) ?_
  intro W base args ds gs before hval0 hW hcnd _
  have hval : ∀ (j : Nat) t v, Try.f7.params[j]? = some t → args[j]? = some v → Value.okWide Try.prog W .any base t v := hval0
  have hW' := hW
  obtain ⟨p, q, hA0, hV, rfl, hfz, hnd⟩ := hW
  have hA : DataW.TrodAll enc Try.prog W 0 (fun _ => true) true Try.f7.params.toList args.toList ds p := hA0
  rw [Try.params7] at hA hval
  obtain ⟨v0, vs0, d0, ds0, p0, q0, hargs, rfl, rfl, h0, r0⟩ := trodAll_cons hA
  obtain ⟨v1, vs1, d1, ds1, p1, q1, rfl, rfl, rfl, h1, r1⟩ := trodAll_cons r0
  obtain ⟨rfl, rfl, rfl⟩ := trodAll_nil r1
  obtain rfl : args = #[v0, v1] := by cases args; simp_all
  obtain ⟨rfl, rfl⟩ := trodVars_none hV
  have k0 := h0
  have lt0 : ∀ x ∈ p0, x.block < W.heap.size := by obtain ⟨m, hm⟩ := k0; exact DataW.trod_lt m _ _ _ hm
  obtain ⟨a0, len0, cap0, rfl⟩ := okWide_slice Try.underlying34 (hval 0 34 v0 rfl rfl)
  obtain ⟨z0, w0⟩ : ∃ zs, IsStrs W a0 len0 cap0 zs := by
    obtain ⟨fuel, hf⟩ := h0
    rcases open_strings Try.underlying34 Try.underlying9 (by kernel_rfl) hf with ⟨hcs, _⟩ | ⟨x, l, c, zs, hcs, _, hl, hm, hz, _, hcell, hwz⟩
    · simp [Value.cells] at hcs
      obtain ⟨rfl, rfl, rfl⟩ := hcs
      exact ⟨[], .inl ⟨rfl, rfl, rfl, rfl⟩⟩
    · simp [Value.cells] at hcs
      obtain ⟨rfl, rfl, rfl⟩ := hcs
      exact ⟨zs, .inr ⟨_, rfl, hl, hm, by simpa using hz, hcell, hwz⟩⟩
  have k1 := h1
  have lt1 : ∀ x ∈ p1, x.block < W.heap.size := by obtain ⟨m, hm⟩ := k1; exact DataW.trod_lt m _ _ _ hm
  obtain ⟨a1, rfl, hd1, hp1, w1⟩ := open_int Try.underlying3 (hval 1 3 v1 rfl rfl) h1
  clear hA0 hval0
  refine (walk a0 len0 cap0 z0 a1 W w0 w1).mono fun e W' ⟨he, bel⟩ => ?_
  subst he
  exact ⟨_, rfl, _, _, _, [], _, [], hW', trodAll_mk1 (shut_bool Try.underlying4 _), (trodAll_cons_mk (Below.trod laidOut (by kernel_rfl) (of_decide_eq_true (by kernel_rfl)) k0 bel lt0) (trodAll_cons_mk (Below.trod laidOut (by kernel_rfl) (of_decide_eq_true (by kernel_rfl)) k1 bel lt1) trodAll_mk0)), rfl, bel.frame _, fun h => by cases h⟩

theorem over : Rows.seqTwiceRow.holds Try.pinned (OpenSpec.ofChange Rows.seqTwiceSpec) :=
  OpenClaim.holds_of_wide 7 Try.f7 rfl rfl rfl rfl rfl rfl rfl ⟨rfl, rfl, rfl, rfl, rfl⟩ rfl rfl rfl rfl rfl (by kernel_rfl) Try.func7 (by kernel_rfl)
    (of_decide_eq_true (by kernel_rfl)) (by unfold Func.isWrapper; first | (rw [if_pos (by decide +kernel)]; kernel_rfl) | (rw [if_neg (by decide +kernel)]; exact ⟨rfl, rfl⟩))
    (fun os started H enc _ => lifted os started H enc)

theorem proved : Rows.SeqTwiceSaid := over
end Go.Proofs.Ytmfaeonlmfejdaa.seqTwice
