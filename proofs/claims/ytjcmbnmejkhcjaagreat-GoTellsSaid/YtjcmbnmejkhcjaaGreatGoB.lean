/- Contract: selections that go (motion.Go). Condition: they lie in the text, at most 20 of them. -/
import Derived.Test.YtjcmbnmejkhcjaaGreatGoA
namespace Go.Proofs.YtjcmbnmejkhcjaaGreat
open Go.ChangeShapes Go.WideShapes Go.ChangeAt Go.RowKit
open SpanM SelM
attribute [local go_sem ↓] Go.wp_at_zero Go.wp_at_succ
set_option maxRecDepth 100000
set_option linter.unusedVariables false
def mixL (f : Sp → Sp) (l : List Sp) (n : Nat) : List Sp := (l.take n).map f ++ l.drop n
theorem mix_zero (f : Sp → Sp) (l : List Sp) : mixL f l 0 = l := by simp [mixL]
theorem mix_all (f : Sp → Sp) (l : List Sp) : mixL f l l.length = l.map f := by simp [mixL]
theorem mix_len (f : Sp → Sp) (l : List Sp) (n : Nat) (h : n ≤ l.length) : (mixL f l n).length = l.length := by simp [mixL]; omega
theorem mix_at (f : Sp → Sp) (l : List Sp) (n : Nat) (h : n < l.length) (h' : n < (mixL f l n).length) : (mixL f l n)[n] = l[n] := by
  have e : (mixL f l n)[n]? = some l[n] := by
    unfold mixL
    rw [List.getElem?_append_right (by simp; omega), List.length_map, List.length_take, show min n l.length = n by omega, Nat.sub_self, List.drop_eq_getElem_cons h]
    rfl
  rw [List.getElem?_eq_getElem h'] at e
  exact Option.some.inj e
theorem mix_set (f : Sp → Sp) (l : List Sp) (n : Nat) (h : n < l.length) : (mixL f l n).set n (f l[n]) = mixL f l (n + 1) := by
  unfold mixL
  rw [List.set_append_right _ _ (by simp; omega), List.length_map, List.length_take, show min n l.length = n by omega, Nat.sub_self, List.drop_eq_getElem_cons h, List.set_cons_zero, List.take_succ_eq_append_getElem h, List.map_append]
  simp
/-- The head's cell stored. -/
theorem flat_setH (l : List Sp) (i : Nat) (h : i < l.length) (x : Int) : (flat l).set (i * 2 + 1) (.int .i64 x) = flat (l.set i (l[i].1, x)) := by
  rw [← flat_set2 l i h (l[i].1, x)]
  congr 1
  have hf := (flat_at l i h).1
  obtain ⟨hlt, hf⟩ := List.getElem?_eq_some_iff.1 hf
  have := List.set_getElem_self hlt
  rw [hf] at this
  exact this.symm
def GoInv (L : List UInt8) (way : Int) (ext : Bool) (U : List Sp) (g c r : Nat) (w : World) (i : Value) (wr : World) : Prop :=
  ∃ n : Nat, i = .int .i64 n ∧ n ≤ U.length ∧ wr.cell? ⟨w.heap.size, 0, none⟩ = some (.pointer (some ⟨r, 0, none⟩)) ∧ Hid (wr.ownsRow w.heap.size 33 2 (.slice (some ⟨g, 0, none⟩) U.length c) U.length (flat (mixL (goM L way ext) U n))) ∧ Hid (Below w.heap.size w wr)
theorem wi_e {n : Int} {s : Sp} (h : Wi 0 n s) : 0 ≤ s.1 ∧ s.1 ≤ n ∧ 0 ≤ s.2 ∧ s.2 ≤ n := by
  unfold Wi ky at h
  dsimp only at h
  omega
theorem wi_of {n : Int} {s : Sp} (h1 : 0 ≤ s.1) (h2 : s.1 ≤ n) (h3 : 0 ≤ s.2) (h4 : s.2 ≤ n) : Wi 0 n s := by
  unfold Wi ky
  dsimp only
  omega
theorem may_wi {s : Sp} {n : Int} (h : Wi 0 n s) : mayB (ky s) n = true := by
  have := ky_le s
  unfold Wi at h
  unfold mayB
  exact decide_eq_true (by omega)
theorem step_wi (x : ByteArray) (k way : Int) (h0 : 0 ≤ k) (h1 : k ≤ x.size) : 0 ≤ ((stepM x.data.toList k.toNat way : Nat) : Int) ∧ ((stepM x.data.toList k.toNat way : Nat) : Int) ≤ x.size := by
  have h2 : k.toNat ≤ x.data.toList.length := by show k.toNat ≤ x.size; omega
  have h3 : stepM x.data.toList k.toNat way ≤ x.size := stepM_le x.data.toList k.toNat way h2
  omega
theorem goM_wi (x : ByteArray) (way : Int) (ext : Bool) {s : Sp} (h : Wi 0 x.size s) : Wi 0 x.size (goM x.data.toList way ext s) := by
  obtain ⟨h1, h2, h3, h4⟩ := wi_e h
  obtain ⟨h5, h6⟩ := step_wi x s.2 way h3 h4
  have hlv : 0 ≤ lvM x.data.toList s way ∧ lvM x.data.toList s way ≤ x.size := by
    unfold lvM
    unfold Wi at h
    have := ky_le s
    split
    · omega
    · split
      · omega
      · exact ⟨h5, h6⟩
  unfold goM
  split
  · exact wi_of h1 h2 h5 h6
  · exact wi_of hlv.1 hlv.2 hlv.1 hlv.2
set_option maxHeartbeats 8000000 in
theorem go_any {w : World} {r : Nat} {x : ByteArray} (h : LnAt w r x) (hs : x.size ≤ 100000) (v : Value) (l : List Sp) (way : Int) (ext : Bool) (h1 : 1 ≤ way) (h10 : way ≤ 10) (hv : SpAt w v l) (hp : 0 < l.length) (hl : l.length ≤ 20) (hwi : ∀ s ∈ l, Wi 0 x.size s) (V : List Sp) (hV : mrgF (sortL ((mrgF (sortL l)).map (goM x.data.toList way ext))) = V) :
    Calls Tryz.prog 7 #[.agg #[.pointer (some ⟨r, 0, none⟩)], .int .i64 way, .bool ext, v] w (NormPost w 0 V) := by
  have c0 := ln_c0 w r
  have hb0 := ln_b0 w r
  have hwy : wyC way = 0 := by unfold wyC; rw [if_pos ⟨h1, h10⟩]
  have hY := fun W => may9_m r way W
  rw [hwy] at hY
  have HY := hide hY
  have HL := hide (fun W (hb : Below w.heap.size w W) => ln_len (h.bl hb))
  have HS := hide (fun W (hb : Below w.heap.size w W) (k : Int) (h0 : 0 ≤ k) (hk : k ≤ x.size) => step_i (h.bl hb) hs k h0 hk way h1 h10 _ rfl)
  have HLV := hide (fun W (hb : Below w.heap.size w W) (s1 s2 : Int) (h0 : 0 ≤ s2) (hk : s2 ≤ x.size) => leave_any (h.bl hb) hs s1 s2 h0 hk way h1 h10 _ rfl)
  obtain ⟨e1, e2⟩ := nr_good x.size l (by omega) (by omega) (fun k hk => may_wi (hwi _ (List.getElem_mem hk)))
  have hn1 := fun (W : World) (v : Value) (h : SpAt W v l) => norm_any stab20 v l x.size W h (.inl (by omega))
  rw [e1, e2] at hn1
  have hwu := norm_wi 0 x.size l hwi
  have hle := norm_len l
  have hpo := norm_pos l hp
  obtain ⟨U, hU⟩ : ∃ U, mrgF (sortL l) = U := ⟨_, rfl⟩
  rw [hU] at hn1 hwu hle hpo hV
  have hwv : ∀ s ∈ U.map (goM x.data.toList way ext), Wi 0 x.size s := by
    intro s hs
    obtain ⟨t, ht, rfl⟩ := List.mem_map.1 hs
    exact goM_wi x way ext (hwu t ht)
  have hml : (U.map (goM x.data.toList way ext)).length = U.length := List.length_map _
  obtain ⟨e3, e4⟩ := nr_good x.size (U.map (goM x.data.toList way ext)) (by omega) (by omega) (fun k hk => may_wi (hwv _ (List.getElem_mem hk)))
  have hn2 := fun (W : World) (v : Value) (h : SpAt W v (U.map (goM x.data.toList way ext))) => norm_any stab20 v (U.map (goM x.data.toList way ext)) x.size W h (.inl (by omega))
  rw [e3, e4, hV] at hn2
  have HN1 := hide hn1
  have HN2 := hide hn2
  have HWU := hide hwu
  have HML := hide hml
  have hU20 : U.length ≤ 20 := by omega
  have HV := hide hv
  obtain ⟨vA, vc, rfl⟩ := spat_len hv
  clear hv hY hwy h1 h10 h hV hwv hwu hU hle hl hp hwi hn1 hn2 e1 e2 e3 e4 hml
  go_enter Tryz.func7, Tryz.ntmps7
  go_wp2_with fail
  refine (HY.out _).mono ?_
  rintro e w1 ⟨rfl, hb1⟩
  have c0 := cell_later hb1 c0
  have hb1 := bl_trans hb0 hb1
  go_wp2_with fail
  refine (HL.out _ hb1).mono ?_
  rintro e w2 ⟨rfl, hw2⟩
  subst hw2
  have HV1 := hide (spat_below HV.out hb1)
  have hltw := World.block_lt_of_cell? _ _ c0
  go_wp2_with fail
  refine (HN1.out _ _ HV1.out).mono ?_
  rintro e w3 ⟨v3, rfl, hb3, ho3⟩
  have c0 := cell_later hb3 c0
  have hb4 := bl_trans hb1 hb3
  rcases own_form ho3 with ⟨rfl, g1, g2⟩ | ⟨g, c, rfl, g1, g2, g3, g4, g5⟩
  · omega
  have hne : w.heap.size ≠ g := by omega
  have hgw : w.heap.size ≤ g := by omega
  unfold maxLen at g4
  have HO := hide (show w3.ownsRow w.heap.size 33 2 (.slice (some ⟨g, 0, none⟩) U.length c) U.length (flat (mixL (goM x.data.toList way ext) U 0)) by rw [mix_zero]; exact own_base ho3 (Nat.le_trans hb1.size (Nat.le_refl _)))
  have HB4 := hide hb4
  have C0 := hide c0
  clear ho3 hb3 g5 HN1 HV HV1 hltw hb4 c0 hb1 hb0 g2
  go_wp2
  go_loopw [35] (fun i wr => GoInv x.data.toList way ext U g c r w i wr) (fun i _ => U.length - (intOf i).toNat)
  case atStart => exact ⟨0, rfl, Nat.zero_le _, C0.out, HO, HB4⟩
  case round =>
    clear HO HB4 C0
    obtain ⟨n, rfl, hn, c0, HVV, HBL⟩ := hrel
    by_cases hlt : n < U.length
    · have gl : decide (n < U.length) = true := decide_eq_true hlt
      have hnM : n < (mixL (goM x.data.toList way ext) U n).length := by rw [mix_len _ _ _ hn]; exact hlt
      have hat := mix_at (goM x.data.toList way ext) U n hlt hnM
      have hfa := flat_at (mixL (goM x.data.toList way ext) U n) n hnM
      rw [hat] at hfa
      have hset := mix_set (goM x.data.toList way ext) U n hlt
      obtain ⟨p1, p2, p3, p4⟩ := wi_e (HWU.out _ (List.getElem_mem hlt))
      have y1 : wr.cell? ⟨g, n * 2, none⟩ = some (.int .i64 U[n].1) := by rw [World.ownsRow.cellAt HVV.out (n * 2) (by omega)]; exact hfa.1
      have y2 : wr.cell? ⟨g, n * 2 + 1, none⟩ = some (.int .i64 U[n].2) := by rw [World.ownsRow.cellAt HVV.out (n * 2 + 1) (by omega)]; exact hfa.2
      have hseth := fun X => flat_setH (mixL (goM x.data.toList way ext) U n) n hnM X
      rw [hat] at hseth
      clear hat hfa
      generalize U[n] = s at *
      obtain ⟨s1, s2⟩ := s
      dsimp only at p1 p2 p3 p4 y1 y2 hseth
      have HSET := hide hset
      have HSETH := hide hseth
      clear hset hseth
      have hbx0 := bl_alloc (bl_refl wr) (.cells #[.int .i64 s1, .int .i64 s2] 33)
      have hbx := bl_trans HBL.out hbx0
      have ho6 := HVV.out.alloc (.cells #[.int .i64 s1, .int .i64 s2] 33)
      have c6 := cell_later hbx0 c0
      have y3 := cell_later hbx0 y1
      have y4 := cell_later hbx0 y2
      cases ext
      · have HC := hide (HLV.out _ hbx s1 s2 p3 p4)
        have HU : Hid (goM x.data.toList way false (s1, s2) = (lvM x.data.toList (s1, s2) way, lvM x.data.toList (s1, s2) way)) := hide rfl
        generalize lvM x.data.toList (s1, s2) way = u at *
        rw [HU.out] at HSET
        clear hbx0
        go_wp2_with fail
        refine HC.out.mono ?_
        rintro e w5 ⟨rfl, hb5⟩
        have hb6 := bl_trans hbx hb5
        have ho7 := own_below ho6 hb5
        have c7 := cell_later hb5 c6
        have y5 := cell_later hb5 y3
        have y6 := cell_later hb5 y4
        have yf1 := World.ownsRow.frozenAt ho7 (n * 2)
        have yf2 := World.ownsRow.frozenAt ho7 (n * 2 + 1)
        have ho8 := own_put2 ho7 n hnM (u, u)
        rw [HSET.out] at ho8
        have HO8 := hide ho8
        have HB8 := hide (bl_set (bl_set hb6 (p := ⟨g, n * 2, none⟩) hgw (.int .i64 u)) (p := ⟨g, n * 2 + 1, none⟩) hgw (.int .i64 u))
        have c8 := cell_set_ne (o := n * 2 + 1) (u := .int .i64 u) hne (cell_set_ne (o := n * 2) (u := .int .i64 u) hne c7)
        clear ho6 ho7 ho8 y1 y2 y3 y4 c6 c0 hb5 hb6 hbx p1 p2 p3 p4
        go_wp2
        refine ⟨?_, by first | (simp [intOf]; done) | (simp [intOf]; omega)⟩
        exact ⟨n + 1, by go_num, by omega, c8, HO8, HB8⟩
      · have HC := hide (HS.out _ hbx s2 p3 p4)
        have HU : Hid (goM x.data.toList way true (s1, s2) = (s1, ((stepM x.data.toList s2.toNat way : Nat) : Int))) := hide rfl
        generalize ((stepM x.data.toList s2.toNat way : Nat) : Int) = u at *
        rw [HU.out] at HSET
        clear hbx0
        go_wp2_with fail
        refine HC.out.mono ?_
        rintro e w5 ⟨rfl, hb5⟩
        have hb6 := bl_trans hbx hb5
        have ho7 := own_below ho6 hb5
        have c7 := cell_later hb5 c6
        have y5 := cell_later hb5 y3
        have y6 := cell_later hb5 y4
        have yf2 := World.ownsRow.frozenAt ho7 (n * 2 + 1)
        have ho8 := (World.ownsRow.stored ho7 (n * 2 + 1) (.int .i64 u)).1
        rw [HSETH.out, HSET.out] at ho8
        have HO8 := hide ho8
        have HB8 := hide (bl_set hb6 (p := ⟨g, n * 2 + 1, none⟩) hgw (.int .i64 u))
        have c8 := cell_set_ne (o := n * 2 + 1) (u := .int .i64 u) hne c7
        clear ho6 ho7 ho8 y1 y2 y3 y4 c6 c0 hb5 hb6 hbx p1 p2 p3 p4
        go_wp2
        refine ⟨?_, by first | (simp [intOf]; done) | (simp [intOf]; omega)⟩
        exact ⟨n + 1, by go_num, by omega, c8, HO8, HB8⟩
    · obtain rfl : n = U.length := by omega
      have gl : decide (U.length < U.length) = false := by simp
      have hv9 := HVV.out
      rw [mix_all] at hv9
      have HC := hide (HN2.out _ _ (own_spatL (l := U.map (goM x.data.toList way ext)) (by rw [HML.out]; exact hv9)))
      clear hv9 HVV HML HN2 HLV HS hlt
      go_wp2_with fail
      refine (HL.out _ HBL.out).mono ?_
      rintro e w9 ⟨rfl, hw9⟩
      subst hw9
      go_wp2_with fail
      refine HC.out.mono ?_
      rintro e w10 ⟨v10, rfl, hb10, ho10⟩
      go_wp2
      go_ret2
      exact ⟨_, rfl, bl_trans HBL.out hb10, own_base ho10 HBL.out.size⟩
end Go.Proofs.YtjcmbnmejkhcjaaGreat
