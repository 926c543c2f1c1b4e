/- Contracts: selections that go, or are refused, in the program and in the reference. Condition: a text that is not too long, at most 20 selections. -/
import Derived.Test.YtjcmbnmejkhcjaaGreatGoB
import Derived.Test.YtjcmbnmejkhcjaaGreatRefNZ
namespace Go.Proofs.YtjcmbnmejkhcjaaGreat
open Go.ChangeShapes Go.WideShapes Go.ChangeAt Go.RowKit
open SpanM SelM
attribute [local go_sem ↓] Go.wp_at_zero Go.wp_at_succ
set_option maxRecDepth 100000
set_option linter.unusedVariables false
def goE (x : ByteArray) (way : Int) (ext : Bool) (l : List Sp) : Int := if 1 ≤ way ∧ way ≤ 10 then (if nrE x.size l = 0 then nrE x.size ((nrL x.size l).map (goM x.data.toList way ext)) else nrE x.size l) else 2
def goL (x : ByteArray) (way : Int) (ext : Bool) (l : List Sp) : List Sp := if 1 ≤ way ∧ way ≤ 10 then (if nrE x.size l = 0 then nrL x.size ((nrL x.size l).map (goM x.data.toList way ext)) else []) else []
theorem nr_ok {n : Int} {l : List Sp} (h : nrE n l = 0) : 0 < l.length ∧ l.length ≤ 64 ∧ ∀ s ∈ l, mayB (ky s) n = true := by
  by_cases h0 : l.length = 0
  · rw [(nr_zero n l h0).1] at h; cases h
  by_cases h1 : 64 < l.length
  · rw [(nr_full n l h1).1] at h; cases h
  refine ⟨by omega, by omega, ?_⟩
  unfold nrE at h
  rw [if_neg h0, if_neg h1] at h
  split at h
  · assumption
  · cases h
theorem wi_may {s : Sp} {n : Int} (h : mayB (ky s) n = true) : Wi 0 n s := by
  unfold mayB at h
  have := of_decide_eq_true h
  unfold Wi
  omega
theorem nr_ne {n : Int} {l : List Sp} (h : nrE n l ≠ 0) : nrL n l = [] := by unfold nrL; rw [if_neg h]
theorem nr_eq {n : Int} {l : List Sp} (h : nrE n l = 0) : nrL n l = mrgF (sortL l) := by unfold nrL; rw [if_pos h]
/-- What goes is in the text still. -/
theorem go_facts (x : ByteArray) (way : Int) (ext : Bool) (l : List Sp) (he : nrE x.size l = 0) :
    (0 < (mrgF (sortL l)).length ∧ (mrgF (sortL l)).length ≤ 64 ∧ ∀ s ∈ mrgF (sortL l), Wi 0 x.size s) ∧ nrE x.size ((mrgF (sortL l)).map (goM x.data.toList way ext)) = 0 := by
  obtain ⟨h1, h2, h3⟩ := nr_ok he
  have hwu := norm_wi 0 x.size l (fun s hs => wi_may (h3 s hs))
  have hle := norm_len l
  have hpo := norm_pos l h1
  refine ⟨⟨hpo, by omega, hwu⟩, ?_⟩
  generalize mrgF (sortL l) = U at *
  refine (nr_good x.size (U.map (goM x.data.toList way ext)) (by rw [List.length_map]; omega) (by rw [List.length_map]; omega) (fun k hk => may_wi ?_)).1
  have hm := List.getElem_mem hk
  obtain ⟨t, ht, he⟩ := List.mem_map.1 hm
  rw [← he]
  exact goM_wi x way ext (hwu t ht)
set_option maxHeartbeats 8000000 in
theorem go_all {w : World} {r : Nat} {x : ByteArray} (h : LnAt w r x) (hs : x.size ≤ 100000) (v : Value) (l : List Sp) (way : Int) (ext : Bool) (hv : SpAt w v l) (hl : l.length ≤ 20) :
    Calls Tryz.prog 7 #[.agg #[.pointer (some ⟨r, 0, none⟩)], .int .i64 way, .bool ext, v] w (NormPost w (goE x way ext l) (goL x way ext l)) := by
  by_cases hw : 1 ≤ way ∧ way ≤ 10
  · by_cases he : nrE x.size l = 0
    · obtain ⟨h1, h2, h3⟩ := nr_ok he
      have key := go_any h hs v l way ext hw.1 hw.2 hv h1 hl (fun s hs => wi_may (h3 s hs)) _ rfl
      obtain ⟨-, e3⟩ := go_facts x way ext l he
      have q1 : goE x way ext l = 0 := by unfold goE; rw [if_pos hw, if_pos he, nr_eq he, e3]
      have q2 : goL x way ext l = mrgF (sortL ((mrgF (sortL l)).map (goM x.data.toList way ext))) := by unfold goL; rw [if_pos hw, if_pos he, nr_eq he, nr_eq e3]
      rw [q1, q2]; exact key
    · have q1 : goE x way ext l = nrE x.size l := by unfold goE; rw [if_pos hw, if_neg he]
      have q2 : goL x way ext l = [] := by unfold goL; rw [if_pos hw, if_neg he]
      rw [q1, q2]
      have c0 := ln_c0 w r
      have hb0 := ln_b0 w r
      have hwy : wyC way = 0 := by unfold wyC; rw [if_pos hw]
      have hY := fun W => may9_m r way W
      rw [hwy] at hY
      have HY := hide hY
      have HL := hide (fun W (hb : Below w.heap.size w W) => ln_len (h.bl hb))
      have hn1 := fun (W : World) (v : Value) (h : SpAt W v l) => norm_any stab20 v l x.size W h (.inl (by omega))
      rw [nr_ne he] at hn1
      have HN1 := hide hn1
      generalize nrE x.size l = E at *
      have gE : (E != 0) = true := by simp [bne_iff_ne]; exact he
      have gE' : (E == 0) = false := beq_eq_false_iff_ne.2 he
      have HV := hide hv
      obtain ⟨vA, vc, rfl⟩ := spat_len hv
      clear hv hY hwy h hn1 q1 q2 hw he
      go_enter Tryz.func7, Tryz.ntmps7
      go_wp2_with fail
      refine (HY.out _).mono ?_
      rintro e w1 ⟨rfl, hb1⟩
      have c0 := cell_later hb1 c0
      have hb1 := bl_trans hb0 hb1
      go_wp2_with fail
      refine (HL.out _ hb1).mono ?_
      rintro e w2 ⟨rfl, hw2⟩
      subst hw2
      have HV1 := hide (spat_below HV.out hb1)
      have hltw := World.block_lt_of_cell? _ _ c0
      go_wp2_with fail
      refine (HN1.out _ _ HV1.out).mono ?_
      rintro e w3 ⟨v3, rfl, hb3, ho3⟩
      obtain ⟨a3, c3, rfl⟩ := own_slice ho3
      have HB := hide (bl_trans hb1 hb3)
      clear ho3 hb3 hb1 hb0 HN1 HY HL
      go_wp2
      go_ret2
      exact post_nil HB.out
  · have q1 : goE x way ext l = 2 := by unfold goE; rw [if_neg hw]
    have q2 : goL x way ext l = [] := by unfold goL; rw [if_neg hw]
    rw [q1, q2]
    have c0 := ln_c0 w r
    have hb0 := ln_b0 w r
    have hwy : wyC way = 2 := by unfold wyC; rw [if_neg hw]
    have hY := fun W => may9_m r way W
    rw [hwy] at hY
    have HY := hide hY
    obtain ⟨vA, vc, rfl⟩ := spat_len hv
    clear hv hY hwy h q1 q2 hw
    go_enter Tryz.func7, Tryz.ntmps7
    go_wp2_with fail
    refine (HY.out _).mono ?_
    rintro e w1 ⟨rfl, hb1⟩
    have HB := hide (bl_trans hb0 hb1)
    clear hb1 hb0
    go_wp2
    go_ret2
    exact post_nil HB.out
def RGoInv (f : Sp → Sp) (U : List Sp) (w : World) (v i : Value) (wr : World) : Prop :=
  ∃ n : Nat, i = .int .i64 n ∧ n ≤ U.length ∧ Hid (wr.ownsRow w.heap.size 33 2 v n (flat ((U.take n).map f))) ∧ Hid (Below w.heap.size w wr)
set_option maxHeartbeats 16000000 in
theorem rgo_all {w : World} {x : ByteArray} (hs : x.size ≤ 100000) (v : Value) (l : List Sp) (way : Int) (ext : Bool) (hv : SpAt w v l) (hl : l.length ≤ 1000) :
    Calls Tryz.prog 8 #[.string x, .int .i64 way, .bool ext, v] w (NormPost w (goE x way ext l) (goL x way ext l)) := by
  obtain ⟨vA, vc, rfl⟩ := spat_len hv
  by_cases hw1 : way < 1
  · have q1 : goE x way ext l = 2 := by unfold goE; rw [if_neg (by omega)]
    have q2 : goL x way ext l = [] := by unfold goL; rw [if_neg (by omega)]
    rw [q1, q2]
    have g1 : decide (way < 1) = true := decide_eq_true hw1
    clear hv q1 q2 hw1
    go_enter Tryz.func8, Tryz.ntmps8
    go_wp2
    go_ret2
    exact post_nil (bl_refl w)
  by_cases hw2 : 10 < way
  · have q1 : goE x way ext l = 2 := by unfold goE; rw [if_neg (by omega)]
    have q2 : goL x way ext l = [] := by unfold goL; rw [if_neg (by omega)]
    rw [q1, q2]
    have g1 : decide (way < 1) = false := decide_eq_false hw1
    have g2 : decide (10 < way) = true := decide_eq_true hw2
    clear hv q1 q2 hw1 hw2
    go_enter Tryz.func8, Tryz.ntmps8
    go_wp2
    go_ret2
    exact post_nil (bl_refl w)
  have g1 : decide (way < 1) = false := decide_eq_false hw1
  have g2 : decide (10 < way) = false := decide_eq_false hw2
  have hw : 1 ≤ way ∧ way ≤ 10 := by omega
  have hn1 := rnorm_any (.slice vA l.length vc) l x.size w hv hl
  have hxw : (x.size : Int) = (x.size : Int) := rfl
  by_cases he : nrE x.size l = 0
  case neg =>
    have q1 : goE x way ext l = nrE x.size l := by unfold goE; rw [if_pos hw, if_neg he]
    have q2 : goL x way ext l = [] := by unfold goL; rw [if_pos hw, if_neg he]
    rw [q1, q2]
    rw [nr_ne he] at hn1
    have HN1 := hide hn1
    generalize nrE x.size l = E at *
    have gE : (E != 0) = true := by simp [bne_iff_ne]; exact he
    have gE' : (E == 0) = false := beq_eq_false_iff_ne.2 he
    clear hv hn1 q1 q2 hw he hw1 hw2
    go_enter Tryz.func8, Tryz.ntmps8
    go_wp2_with fail
    refine HN1.out.mono ?_
    rintro e w3 ⟨v3, rfl, hb3, ho3⟩
    obtain ⟨a3, c3, rfl⟩ := own_slice ho3
    have HB := hide hb3
    clear ho3 hb3 HN1
    go_wp2
    go_ret2
    exact post_nil HB.out
  case pos =>
    obtain ⟨⟨hpo, h64, hwu⟩, e3⟩ := go_facts x way ext l he
    have q1 : goE x way ext l = 0 := by unfold goE; rw [if_pos hw, if_pos he, nr_eq he, e3]
    have q2 : goL x way ext l = nrL x.size ((mrgF (sortL l)).map (goM x.data.toList way ext)) := by unfold goL; rw [if_pos hw, if_pos he, nr_eq he]
    rw [q1, q2]
    rw [nr_eq he, he] at hn1
    have HN1 := hide hn1
    have hn2 := fun (W : World) (v : Value) (h : SpAt W v ((mrgF (sortL l)).map (goM x.data.toList way ext))) => rnorm_any v ((mrgF (sortL l)).map (goM x.data.toList way ext)) x.size W h (by simp; omega)
    rw [e3] at hn2
    have HN2 := hide hn2
    obtain ⟨U, hU⟩ : ∃ U, mrgF (sortL l) = U := ⟨_, rfl⟩
    rw [hU] at HN1 HN2 hpo h64 hwu ⊢
    have HWU := hide hwu
    obtain ⟨f, hf⟩ : ∃ f, goM x.data.toList way ext = f := ⟨_, rfl⟩
    rw [hf] at HN2 ⊢
    have HF := hide hf
    have HST := hide (fun (W : World) (k : Int) (h0 : 0 ≤ k) (h1 : k ≤ x.size) => (show Calls Tryz.prog 21 #[.string x, .int .i64 k, .int .i64 way] W fun e w' => e = .returned (.tuple #[.int .i64 ((stepM x.data.toList k.toNat way : Nat) : Int), .int .i64 0]) ∧ Below W.heap.size W w' from by
      obtain ⟨n, rfl⟩ : ∃ n : Nat, k = n := ⟨k.toNat, by omega⟩
      have := rStep_m x n way W hs
      obtain ⟨s1, s2⟩ := st_in x.data.toList n way (by show n ≤ x.size; omega) hw.1 hw.2
      rw [s1, s2] at this
      exact this))
    have HMP := hide (show ∀ n, (h : n < U.length) → (U.take (n + 1)).map f = (U.take n).map f ++ [f U[n]] from fun n h => by rw [List.take_succ_eq_append_getElem h, List.map_append]; rfl)
    have HALL := hide (show (U.take U.length).map f = U.map f by rw [List.take_length])
    obtain ⟨i0, hi0, hz0', hz1, hz2⟩ := info_parts info_sl
    clear hv hn1 hn2 q1 q2 he hU hf hwu e3 hw1 hw2 hw hpo
    go_enter Tryz.func8, Tryz.ntmps8
    go_wp2_with fail
    refine HN1.out.mono ?_
    rintro e w1 ⟨v1, rfl, hb1, ho1⟩
    have HSP := hide (own_spatL ho1)
    obtain ⟨aU, cU, rfl⟩ := spat_len HSP.out
    have HB1 := hide hb1
    have HW1 := hide hb1
    clear ho1 HN1 hb1
    go_wp2
    clear g1 g2
    go_loopw [12, 13] (fun v i wr => RGoInv f U w1 v i wr) (fun _ i _ => U.length - (intOf i).toNat)
    case atStart => exact ⟨0, rfl, Nat.zero_le _, hide ⟨rfl, .inl ⟨rfl, rfl⟩⟩, hide (bl_refl w1)⟩
    case round =>
      obtain ⟨n, rfl, hn, HVV, HBL⟩ := hrel
      by_cases hlt : n < U.length
      · obtain ⟨b1, o1, c1, hv1, hc1, hm1, hlb1, hcell1⟩ := spat_some (spat_below HSP.out HBL.out) (by omega)
        injection hv1 with hv1 _ hv1c
        subst hv1 hv1c
        unfold maxLen at hm1
        obtain ⟨x1, x2⟩ := hcell1 n hlt
        have hwn := HWU.out _ (List.getElem_mem hlt)
        have hmp := HMP.out n hlt
        obtain ⟨s, hs'⟩ : ∃ s, U[n] = s := ⟨_, rfl⟩
        rw [hs'] at x1 x2 hwn hmp
        obtain ⟨s1, s2⟩ := s
        obtain ⟨j1, j2, j3, j4⟩ := wi_e hwn
        dsimp only at x1 x2 j1 j2 j3 j4
        obtain ⟨kk, hkk⟩ : ∃ q, ky (s1, s2) = q := ⟨_, rfl⟩
        have HK := hide (fun W => rspan_b s1 s2 kk hkk W)
        have HS := hide (fun W => HST.out W s2 j3 j4)
        obtain ⟨st, hst⟩ : ∃ q : Int, ((stepM x.data.toList s2.toNat way : Nat) : Int) = q := ⟨_, rfl⟩
        rw [hst] at HS
        have hgo : f (s1, s2) = if ext = true then (s1, st) else (if s1 ≠ s2 ∧ way = 1 then (kk.1, kk.1) else if s1 ≠ s2 ∧ way = 2 then (kk.2, kk.2) else (st, st)) := by
          rw [← HF.out]
          unfold goM lvM
          rw [hkk]
          dsimp only
          rw [hst]
          repeat' split
          all_goals first | rfl | (exfalso; omega)
        have hkd : decide (kk.1 < kk.2) = decide (s1 ≠ s2) := by
          rw [← hkk]; unfold ky; dsimp only
          rw [decide_eq_decide]; omega
        have fin : ∀ (W : World) (v' : Value) (p : Sp), f (s1, s2) = p → W.ownsRow w1.heap.size 33 2 v' (n + 1) (flat ((U.take n).map f) ++ [.int .i64 p.1, .int .i64 p.2]) → Below w1.heap.size w1 W → RGoInv f U w1 v' (.int .i64 ((n : Int) + 1)) W := by
          rintro W v' p hp ho hb
          refine ⟨n + 1, by go_num, by omega, hide ?_, hide hb⟩
          rw [hmp, flat_app, hp]
          exact ho
        have FIN := hide fin
        have hbw : w1.heap.size ≤ wr.heap.size := HBL.out.size
        obtain ⟨aV, cV, rfl⟩ := own_slice HVV.out
        have gl : decide (n < U.length) = true := decide_eq_true hlt
        have HGO := hide hgo
        have HKD := hide hkd
        clear hcell1 fin hs' hkk hst hwn hmp hgo hkd j1 j2 j3 j4 hm1
        cases ext
        · by_cases h0 : s1 = s2
          · have hgo : f (s1, s2) = (st, st) := by rw [HGO.out]; rw [if_neg (by simp), if_neg (fun h => h.1 h0), if_neg (fun h => h.1 h0)]
            have gk : decide (kk.1 < kk.2) = false := by rw [HKD.out]; exact decide_eq_false (fun h => h h0)
            clear h0
            clear HGO HKD
            have HG := hide hgo
            clear hgo
            go_wp2_with fail
            refine (HK.out _).mono ?_
            rintro e w2 ⟨rfl, hb2⟩
            have hbR := bl_trans (bl_alloc (bl_refl wr) (.cells #[.int .i64 s1, .int .i64 s2] 33)) hb2
            have hbB := bl_alloc (bl_refl w2) (.cells #[.int .i64 kk.1, .int .i64 kk.2] 56)
            have dd1 := cell_later hb2 (show (wr.alloc (.cells #[.int .i64 s1, .int .i64 s2] 33)).cell? ⟨wr.heap.size, 0, none⟩ = some (.int .i64 s1) from cells_lit wr _ _ 0 _ rfl)
            have dd2 := cell_later hb2 (show (wr.alloc (.cells #[.int .i64 s1, .int .i64 s2] 33)).cell? ⟨wr.heap.size, 1, none⟩ = some (.int .i64 s2) from cells_lit wr _ _ 1 _ rfl)
            have hlw2 := World.block_lt_of_cell? _ _ dd1
            have d1 := cell_later hbB dd1
            have d2 := cell_later hbB dd2
            have p1 : (w2.alloc (.cells #[.int .i64 kk.1, .int .i64 kk.2] 56)).cell? ⟨w2.heap.size, 0, none⟩ = some (.int .i64 kk.1) := cells_lit w2 _ _ 0 _ rfl
            have p2 : (w2.alloc (.cells #[.int .i64 kk.1, .int .i64 kk.2] 56)).cell? ⟨w2.heap.size, 1, none⟩ = some (.int .i64 kk.2) := cells_lit w2 _ _ 1 _ rfl
            have q1 : (wr.alloc (.cells #[.int .i64 s1, .int .i64 s2] 33)).frozen? ⟨wr.heap.size, 0, none⟩ = false := by go_simp
            have q2 : (wr.alloc (.cells #[.int .i64 s1, .int .i64 s2] 33)).frozen? ⟨wr.heap.size, 1, none⟩ = false := by go_simp
            have hlw : wr.heap.size < (wr.alloc (.cells #[.int .i64 s1, .int .i64 s2] 33)).heap.size := by simp
            have q1 := ((bl_trans hb2 hbB).frozen (p := ⟨wr.heap.size, 0, none⟩) hlw).trans q1
            have q2 := ((bl_trans hb2 hbB).frozen (p := ⟨wr.heap.size, 1, none⟩) hlw).trans q2
            have hbR := bl_trans hbR hbB
            have hlw3 := World.block_lt_of_cell? _ _ d1
            have hn9 : wr.heap.size ≠ w2.heap.size := by have := hb2.size; omega
            clear hb2 hbB x1 x2 HK hlw
            go_wp2_with fail
            obtain ⟨wA, hwA⟩ : ∃ W, w2.alloc (.cells #[.int .i64 kk.1, .int .i64 kk.2] 56) = W := ⟨_, rfl⟩
            rw [hwA] at d1 d2 p1 p2 q1 q2 hbR hlw3
            first | rw [hwA] | skip
            refine (HS.out _).mono ?_
            rintro e w3 ⟨rfl, hb3⟩
            have d1 := cell_later hb3 d1
            have d2 := cell_later hb3 d2
            have p1 := cell_later hb3 p1
            have p2 := cell_later hb3 p2
            have q1 := (hb3.frozen (p := ⟨wr.heap.size, 0, none⟩) hlw3).trans q1
            have q2 := (hb3.frozen (p := ⟨wr.heap.size, 1, none⟩) hlw3).trans q2
            have hbR := bl_trans hbR hb3
            have hbQ := bl_trans HBL.out hbR
            have hlw4 := World.block_lt_of_cell? _ _ d1
            have hlw5 := World.block_lt_of_cell? _ _ p1
            clear hb3 HS hwA hlw3 dd1 dd2 hlw2
            have hbS : Below wr.heap.size wr ((w3.setCell ⟨wr.heap.size, 0, none⟩ (.int .i64 st)).setCell ⟨wr.heap.size, 1, none⟩ (.int .i64 st)) := bl_set (bl_set hbR (p := ⟨wr.heap.size, 0, none⟩) (Nat.le_refl _) (.int .i64 st)) (p := ⟨wr.heap.size, 1, none⟩) (Nat.le_refl _) (.int .i64 st)
            have HOW := hide (own_below HVV.out hbS)
            have hbT : Below w1.heap.size w1 ((w3.setCell ⟨wr.heap.size, 0, none⟩ (.int .i64 st)).setCell ⟨wr.heap.size, 1, none⟩ (.int .i64 st)) := bl_trans HBL.out hbS
            have hsz : ((w3.setCell ⟨wr.heap.size, 0, none⟩ (.int .i64 st)).setCell ⟨wr.heap.size, 1, none⟩ (.int .i64 st)).heap.size = w3.heap.size := by simp
            go_wp2_with (at_builtin; (refine wpList_push ((w3.setCell ⟨wr.heap.size, 0, none⟩ (.int .i64 st)).setCell ⟨wr.heap.size, 1, none⟩ (.int .i64 st)) rfl _ _ 22 rfl w1.heap.size 33 i0 (.agg #[.int .i64 0, .int .i64 0]) 2 16 Tryz.underlying22 hi0 hz0' hz1 hz2 rfl (by decide) (.slice aV n cV) n (flat ((U.take n).map f)) rfl HOW.out 1 #[.int .i64 st, .int .i64 st] (by show Value.slice (some ⟨w3.heap.size, 0, none⟩) 1 1 = _; simp) rfl (by simp [Value.oneCell']) (by omega) (by decide) (by have h9 := hbT.size; first | exact h9 | omega) ?_); intro v' w5 hv5 hg5 hat)
            have hbl5 : Below w1.heap.size w1 w5 := bl_own hbT HOW.out hg5 (Nat.le_refl _)
            refine ⟨?_, by first | (simp [intOf]; done) | (simp [intOf]; omega)⟩
            exact FIN _ _ _ HG.out hv5 hbl5
          · by_cases h1 : way = 1
            · have hgo : f (s1, s2) = (kk.1, kk.1) := by rw [HGO.out]; rw [if_neg (by simp), if_pos ⟨h0, h1⟩]
              have gk : decide (kk.1 < kk.2) = true := by rw [HKD.out]; exact decide_eq_true h0
              have gw1 : (way == 1) = true := beq_iff_eq.2 h1
              have gw2 : (way == 2) = false := beq_eq_false_iff_ne.2 (by omega)
              clear h0 h1
              clear HGO HKD
              have HG := hide hgo
              clear hgo
              go_wp2_with fail
              refine (HK.out _).mono ?_
              rintro e w2 ⟨rfl, hb2⟩
              have hbR := bl_trans (bl_alloc (bl_refl wr) (.cells #[.int .i64 s1, .int .i64 s2] 33)) hb2
              have hbB := bl_alloc (bl_refl w2) (.cells #[.int .i64 kk.1, .int .i64 kk.2] 56)
              have dd1 := cell_later hb2 (show (wr.alloc (.cells #[.int .i64 s1, .int .i64 s2] 33)).cell? ⟨wr.heap.size, 0, none⟩ = some (.int .i64 s1) from cells_lit wr _ _ 0 _ rfl)
              have dd2 := cell_later hb2 (show (wr.alloc (.cells #[.int .i64 s1, .int .i64 s2] 33)).cell? ⟨wr.heap.size, 1, none⟩ = some (.int .i64 s2) from cells_lit wr _ _ 1 _ rfl)
              have hlw2 := World.block_lt_of_cell? _ _ dd1
              have d1 := cell_later hbB dd1
              have d2 := cell_later hbB dd2
              have p1 : (w2.alloc (.cells #[.int .i64 kk.1, .int .i64 kk.2] 56)).cell? ⟨w2.heap.size, 0, none⟩ = some (.int .i64 kk.1) := cells_lit w2 _ _ 0 _ rfl
              have p2 : (w2.alloc (.cells #[.int .i64 kk.1, .int .i64 kk.2] 56)).cell? ⟨w2.heap.size, 1, none⟩ = some (.int .i64 kk.2) := cells_lit w2 _ _ 1 _ rfl
              have q1 : (wr.alloc (.cells #[.int .i64 s1, .int .i64 s2] 33)).frozen? ⟨wr.heap.size, 0, none⟩ = false := by go_simp
              have q2 : (wr.alloc (.cells #[.int .i64 s1, .int .i64 s2] 33)).frozen? ⟨wr.heap.size, 1, none⟩ = false := by go_simp
              have hlw : wr.heap.size < (wr.alloc (.cells #[.int .i64 s1, .int .i64 s2] 33)).heap.size := by simp
              have q1 := ((bl_trans hb2 hbB).frozen (p := ⟨wr.heap.size, 0, none⟩) hlw).trans q1
              have q2 := ((bl_trans hb2 hbB).frozen (p := ⟨wr.heap.size, 1, none⟩) hlw).trans q2
              have hbR := bl_trans hbR hbB
              have hlw3 := World.block_lt_of_cell? _ _ d1
              have hn9 : wr.heap.size ≠ w2.heap.size := by have := hb2.size; omega
              clear hb2 hbB x1 x2 HK hlw
              go_wp2_with fail
              obtain ⟨wA, hwA⟩ : ∃ W, w2.alloc (.cells #[.int .i64 kk.1, .int .i64 kk.2] 56) = W := ⟨_, rfl⟩
              rw [hwA] at d1 d2 p1 p2 q1 q2 hbR hlw3
              first | rw [hwA] | skip
              refine (HS.out _).mono ?_
              rintro e w3 ⟨rfl, hb3⟩
              have d1 := cell_later hb3 d1
              have d2 := cell_later hb3 d2
              have p1 := cell_later hb3 p1
              have p2 := cell_later hb3 p2
              have q1 := (hb3.frozen (p := ⟨wr.heap.size, 0, none⟩) hlw3).trans q1
              have q2 := (hb3.frozen (p := ⟨wr.heap.size, 1, none⟩) hlw3).trans q2
              have hbR := bl_trans hbR hb3
              have hbQ := bl_trans HBL.out hbR
              have hlw4 := World.block_lt_of_cell? _ _ d1
              have hlw5 := World.block_lt_of_cell? _ _ p1
              clear hb3 HS hwA hlw3 dd1 dd2 hlw2
              have hbS : Below wr.heap.size wr ((w3.setCell ⟨wr.heap.size, 0, none⟩ (.int .i64 kk.1)).setCell ⟨wr.heap.size, 1, none⟩ (.int .i64 kk.1)) := bl_set (bl_set hbR (p := ⟨wr.heap.size, 0, none⟩) (Nat.le_refl _) (.int .i64 kk.1)) (p := ⟨wr.heap.size, 1, none⟩) (Nat.le_refl _) (.int .i64 kk.1)
              have HOW := hide (own_below HVV.out hbS)
              have hbT : Below w1.heap.size w1 ((w3.setCell ⟨wr.heap.size, 0, none⟩ (.int .i64 kk.1)).setCell ⟨wr.heap.size, 1, none⟩ (.int .i64 kk.1)) := bl_trans HBL.out hbS
              have hsz : ((w3.setCell ⟨wr.heap.size, 0, none⟩ (.int .i64 kk.1)).setCell ⟨wr.heap.size, 1, none⟩ (.int .i64 kk.1)).heap.size = w3.heap.size := by simp
              go_wp2_with (at_builtin; (refine wpList_push ((w3.setCell ⟨wr.heap.size, 0, none⟩ (.int .i64 kk.1)).setCell ⟨wr.heap.size, 1, none⟩ (.int .i64 kk.1)) rfl _ _ 22 rfl w1.heap.size 33 i0 (.agg #[.int .i64 0, .int .i64 0]) 2 16 Tryz.underlying22 hi0 hz0' hz1 hz2 rfl (by decide) (.slice aV n cV) n (flat ((U.take n).map f)) rfl HOW.out 1 #[.int .i64 kk.1, .int .i64 kk.1] (by show Value.slice (some ⟨w3.heap.size, 0, none⟩) 1 1 = _; simp) rfl (by simp [Value.oneCell']) (by omega) (by decide) (by have h9 := hbT.size; first | exact h9 | omega) ?_); intro v' w5 hv5 hg5 hat)
              have hbl5 : Below w1.heap.size w1 w5 := bl_own hbT HOW.out hg5 (Nat.le_refl _)
              refine ⟨?_, by first | (simp [intOf]; done) | (simp [intOf]; omega)⟩
              exact FIN _ _ _ HG.out hv5 hbl5
            · by_cases h2 : way = 2
              · have hgo : f (s1, s2) = (kk.2, kk.2) := by rw [HGO.out]; rw [if_neg (by simp), if_neg (fun h => h1 h.2), if_pos ⟨h0, h2⟩]
                have gk : decide (kk.1 < kk.2) = true := by rw [HKD.out]; exact decide_eq_true h0
                have gw1 : (way == 1) = false := beq_eq_false_iff_ne.2 h1
                have gw2 : (way == 2) = true := beq_iff_eq.2 h2
                clear h0 h1 h2
                clear HGO HKD
                have HG := hide hgo
                clear hgo
                go_wp2_with fail
                refine (HK.out _).mono ?_
                rintro e w2 ⟨rfl, hb2⟩
                have hbR := bl_trans (bl_alloc (bl_refl wr) (.cells #[.int .i64 s1, .int .i64 s2] 33)) hb2
                have hbB := bl_alloc (bl_refl w2) (.cells #[.int .i64 kk.1, .int .i64 kk.2] 56)
                have dd1 := cell_later hb2 (show (wr.alloc (.cells #[.int .i64 s1, .int .i64 s2] 33)).cell? ⟨wr.heap.size, 0, none⟩ = some (.int .i64 s1) from cells_lit wr _ _ 0 _ rfl)
                have dd2 := cell_later hb2 (show (wr.alloc (.cells #[.int .i64 s1, .int .i64 s2] 33)).cell? ⟨wr.heap.size, 1, none⟩ = some (.int .i64 s2) from cells_lit wr _ _ 1 _ rfl)
                have hlw2 := World.block_lt_of_cell? _ _ dd1
                have d1 := cell_later hbB dd1
                have d2 := cell_later hbB dd2
                have p1 : (w2.alloc (.cells #[.int .i64 kk.1, .int .i64 kk.2] 56)).cell? ⟨w2.heap.size, 0, none⟩ = some (.int .i64 kk.1) := cells_lit w2 _ _ 0 _ rfl
                have p2 : (w2.alloc (.cells #[.int .i64 kk.1, .int .i64 kk.2] 56)).cell? ⟨w2.heap.size, 1, none⟩ = some (.int .i64 kk.2) := cells_lit w2 _ _ 1 _ rfl
                have q1 : (wr.alloc (.cells #[.int .i64 s1, .int .i64 s2] 33)).frozen? ⟨wr.heap.size, 0, none⟩ = false := by go_simp
                have q2 : (wr.alloc (.cells #[.int .i64 s1, .int .i64 s2] 33)).frozen? ⟨wr.heap.size, 1, none⟩ = false := by go_simp
                have hlw : wr.heap.size < (wr.alloc (.cells #[.int .i64 s1, .int .i64 s2] 33)).heap.size := by simp
                have q1 := ((bl_trans hb2 hbB).frozen (p := ⟨wr.heap.size, 0, none⟩) hlw).trans q1
                have q2 := ((bl_trans hb2 hbB).frozen (p := ⟨wr.heap.size, 1, none⟩) hlw).trans q2
                have hbR := bl_trans hbR hbB
                have hlw3 := World.block_lt_of_cell? _ _ d1
                have hn9 : wr.heap.size ≠ w2.heap.size := by have := hb2.size; omega
                clear hb2 hbB x1 x2 HK hlw
                go_wp2_with fail
                obtain ⟨wA, hwA⟩ : ∃ W, w2.alloc (.cells #[.int .i64 kk.1, .int .i64 kk.2] 56) = W := ⟨_, rfl⟩
                rw [hwA] at d1 d2 p1 p2 q1 q2 hbR hlw3
                first | rw [hwA] | skip
                refine (HS.out _).mono ?_
                rintro e w3 ⟨rfl, hb3⟩
                have d1 := cell_later hb3 d1
                have d2 := cell_later hb3 d2
                have p1 := cell_later hb3 p1
                have p2 := cell_later hb3 p2
                have q1 := (hb3.frozen (p := ⟨wr.heap.size, 0, none⟩) hlw3).trans q1
                have q2 := (hb3.frozen (p := ⟨wr.heap.size, 1, none⟩) hlw3).trans q2
                have hbR := bl_trans hbR hb3
                have hbQ := bl_trans HBL.out hbR
                have hlw4 := World.block_lt_of_cell? _ _ d1
                have hlw5 := World.block_lt_of_cell? _ _ p1
                clear hb3 HS hwA hlw3 dd1 dd2 hlw2
                have hbS : Below wr.heap.size wr ((w3.setCell ⟨wr.heap.size, 0, none⟩ (.int .i64 kk.2)).setCell ⟨wr.heap.size, 1, none⟩ (.int .i64 kk.2)) := bl_set (bl_set hbR (p := ⟨wr.heap.size, 0, none⟩) (Nat.le_refl _) (.int .i64 kk.2)) (p := ⟨wr.heap.size, 1, none⟩) (Nat.le_refl _) (.int .i64 kk.2)
                have HOW := hide (own_below HVV.out hbS)
                have hbT : Below w1.heap.size w1 ((w3.setCell ⟨wr.heap.size, 0, none⟩ (.int .i64 kk.2)).setCell ⟨wr.heap.size, 1, none⟩ (.int .i64 kk.2)) := bl_trans HBL.out hbS
                have hsz : ((w3.setCell ⟨wr.heap.size, 0, none⟩ (.int .i64 kk.2)).setCell ⟨wr.heap.size, 1, none⟩ (.int .i64 kk.2)).heap.size = w3.heap.size := by simp
                go_wp2_with (at_builtin; (refine wpList_push ((w3.setCell ⟨wr.heap.size, 0, none⟩ (.int .i64 kk.2)).setCell ⟨wr.heap.size, 1, none⟩ (.int .i64 kk.2)) rfl _ _ 22 rfl w1.heap.size 33 i0 (.agg #[.int .i64 0, .int .i64 0]) 2 16 Tryz.underlying22 hi0 hz0' hz1 hz2 rfl (by decide) (.slice aV n cV) n (flat ((U.take n).map f)) rfl HOW.out 1 #[.int .i64 kk.2, .int .i64 kk.2] (by show Value.slice (some ⟨w3.heap.size, 0, none⟩) 1 1 = _; simp) rfl (by simp [Value.oneCell']) (by omega) (by decide) (by have h9 := hbT.size; first | exact h9 | omega) ?_); intro v' w5 hv5 hg5 hat)
                have hbl5 : Below w1.heap.size w1 w5 := bl_own hbT HOW.out hg5 (Nat.le_refl _)
                refine ⟨?_, by first | (simp [intOf]; done) | (simp [intOf]; omega)⟩
                exact FIN _ _ _ HG.out hv5 hbl5
              · have hgo : f (s1, s2) = (st, st) := by rw [HGO.out]; rw [if_neg (by simp), if_neg (fun h => h1 h.2), if_neg (fun h => h2 h.2)]
                have gk : decide (kk.1 < kk.2) = true := by rw [HKD.out]; exact decide_eq_true h0
                have gw1 : (way == 1) = false := beq_eq_false_iff_ne.2 h1
                have gw2 : (way == 2) = false := beq_eq_false_iff_ne.2 h2
                clear h0 h1 h2
                clear HGO HKD
                have HG := hide hgo
                clear hgo
                go_wp2_with fail
                refine (HK.out _).mono ?_
                rintro e w2 ⟨rfl, hb2⟩
                have hbR := bl_trans (bl_alloc (bl_refl wr) (.cells #[.int .i64 s1, .int .i64 s2] 33)) hb2
                have hbB := bl_alloc (bl_refl w2) (.cells #[.int .i64 kk.1, .int .i64 kk.2] 56)
                have dd1 := cell_later hb2 (show (wr.alloc (.cells #[.int .i64 s1, .int .i64 s2] 33)).cell? ⟨wr.heap.size, 0, none⟩ = some (.int .i64 s1) from cells_lit wr _ _ 0 _ rfl)
                have dd2 := cell_later hb2 (show (wr.alloc (.cells #[.int .i64 s1, .int .i64 s2] 33)).cell? ⟨wr.heap.size, 1, none⟩ = some (.int .i64 s2) from cells_lit wr _ _ 1 _ rfl)
                have hlw2 := World.block_lt_of_cell? _ _ dd1
                have d1 := cell_later hbB dd1
                have d2 := cell_later hbB dd2
                have p1 : (w2.alloc (.cells #[.int .i64 kk.1, .int .i64 kk.2] 56)).cell? ⟨w2.heap.size, 0, none⟩ = some (.int .i64 kk.1) := cells_lit w2 _ _ 0 _ rfl
                have p2 : (w2.alloc (.cells #[.int .i64 kk.1, .int .i64 kk.2] 56)).cell? ⟨w2.heap.size, 1, none⟩ = some (.int .i64 kk.2) := cells_lit w2 _ _ 1 _ rfl
                have q1 : (wr.alloc (.cells #[.int .i64 s1, .int .i64 s2] 33)).frozen? ⟨wr.heap.size, 0, none⟩ = false := by go_simp
                have q2 : (wr.alloc (.cells #[.int .i64 s1, .int .i64 s2] 33)).frozen? ⟨wr.heap.size, 1, none⟩ = false := by go_simp
                have hlw : wr.heap.size < (wr.alloc (.cells #[.int .i64 s1, .int .i64 s2] 33)).heap.size := by simp
                have q1 := ((bl_trans hb2 hbB).frozen (p := ⟨wr.heap.size, 0, none⟩) hlw).trans q1
                have q2 := ((bl_trans hb2 hbB).frozen (p := ⟨wr.heap.size, 1, none⟩) hlw).trans q2
                have hbR := bl_trans hbR hbB
                have hlw3 := World.block_lt_of_cell? _ _ d1
                have hn9 : wr.heap.size ≠ w2.heap.size := by have := hb2.size; omega
                clear hb2 hbB x1 x2 HK hlw
                go_wp2_with fail
                obtain ⟨wA, hwA⟩ : ∃ W, w2.alloc (.cells #[.int .i64 kk.1, .int .i64 kk.2] 56) = W := ⟨_, rfl⟩
                rw [hwA] at d1 d2 p1 p2 q1 q2 hbR hlw3
                first | rw [hwA] | skip
                refine (HS.out _).mono ?_
                rintro e w3 ⟨rfl, hb3⟩
                have d1 := cell_later hb3 d1
                have d2 := cell_later hb3 d2
                have p1 := cell_later hb3 p1
                have p2 := cell_later hb3 p2
                have q1 := (hb3.frozen (p := ⟨wr.heap.size, 0, none⟩) hlw3).trans q1
                have q2 := (hb3.frozen (p := ⟨wr.heap.size, 1, none⟩) hlw3).trans q2
                have hbR := bl_trans hbR hb3
                have hbQ := bl_trans HBL.out hbR
                have hlw4 := World.block_lt_of_cell? _ _ d1
                have hlw5 := World.block_lt_of_cell? _ _ p1
                clear hb3 HS hwA hlw3 dd1 dd2 hlw2
                have hbS : Below wr.heap.size wr ((w3.setCell ⟨wr.heap.size, 0, none⟩ (.int .i64 st)).setCell ⟨wr.heap.size, 1, none⟩ (.int .i64 st)) := bl_set (bl_set hbR (p := ⟨wr.heap.size, 0, none⟩) (Nat.le_refl _) (.int .i64 st)) (p := ⟨wr.heap.size, 1, none⟩) (Nat.le_refl _) (.int .i64 st)
                have HOW := hide (own_below HVV.out hbS)
                have hbT : Below w1.heap.size w1 ((w3.setCell ⟨wr.heap.size, 0, none⟩ (.int .i64 st)).setCell ⟨wr.heap.size, 1, none⟩ (.int .i64 st)) := bl_trans HBL.out hbS
                have hsz : ((w3.setCell ⟨wr.heap.size, 0, none⟩ (.int .i64 st)).setCell ⟨wr.heap.size, 1, none⟩ (.int .i64 st)).heap.size = w3.heap.size := by simp
                go_wp2_with (at_builtin; (refine wpList_push ((w3.setCell ⟨wr.heap.size, 0, none⟩ (.int .i64 st)).setCell ⟨wr.heap.size, 1, none⟩ (.int .i64 st)) rfl _ _ 22 rfl w1.heap.size 33 i0 (.agg #[.int .i64 0, .int .i64 0]) 2 16 Tryz.underlying22 hi0 hz0' hz1 hz2 rfl (by decide) (.slice aV n cV) n (flat ((U.take n).map f)) rfl HOW.out 1 #[.int .i64 st, .int .i64 st] (by show Value.slice (some ⟨w3.heap.size, 0, none⟩) 1 1 = _; simp) rfl (by simp [Value.oneCell']) (by omega) (by decide) (by have h9 := hbT.size; first | exact h9 | omega) ?_); intro v' w5 hv5 hg5 hat)
                have hbl5 : Below w1.heap.size w1 w5 := bl_own hbT HOW.out hg5 (Nat.le_refl _)
                refine ⟨?_, by first | (simp [intOf]; done) | (simp [intOf]; omega)⟩
                exact FIN _ _ _ HG.out hv5 hbl5
        · have hgo : f (s1, s2) = (s1, st) := by rw [HGO.out]; rfl
          clear HGO HKD
          have HG := hide hgo
          clear hgo
          go_wp2_with fail
          refine (HK.out _).mono ?_
          rintro e w2 ⟨rfl, hb2⟩
          have hbR := bl_trans (bl_alloc (bl_refl wr) (.cells #[.int .i64 s1, .int .i64 s2] 33)) hb2
          have hbB := bl_alloc (bl_refl w2) (.cells #[.int .i64 kk.1, .int .i64 kk.2] 56)
          have dd1 := cell_later hb2 (show (wr.alloc (.cells #[.int .i64 s1, .int .i64 s2] 33)).cell? ⟨wr.heap.size, 0, none⟩ = some (.int .i64 s1) from cells_lit wr _ _ 0 _ rfl)
          have dd2 := cell_later hb2 (show (wr.alloc (.cells #[.int .i64 s1, .int .i64 s2] 33)).cell? ⟨wr.heap.size, 1, none⟩ = some (.int .i64 s2) from cells_lit wr _ _ 1 _ rfl)
          have hlw2 := World.block_lt_of_cell? _ _ dd1
          have d1 := cell_later hbB dd1
          have d2 := cell_later hbB dd2
          have p1 : (w2.alloc (.cells #[.int .i64 kk.1, .int .i64 kk.2] 56)).cell? ⟨w2.heap.size, 0, none⟩ = some (.int .i64 kk.1) := cells_lit w2 _ _ 0 _ rfl
          have p2 : (w2.alloc (.cells #[.int .i64 kk.1, .int .i64 kk.2] 56)).cell? ⟨w2.heap.size, 1, none⟩ = some (.int .i64 kk.2) := cells_lit w2 _ _ 1 _ rfl
          have q1 : (wr.alloc (.cells #[.int .i64 s1, .int .i64 s2] 33)).frozen? ⟨wr.heap.size, 0, none⟩ = false := by go_simp
          have q2 : (wr.alloc (.cells #[.int .i64 s1, .int .i64 s2] 33)).frozen? ⟨wr.heap.size, 1, none⟩ = false := by go_simp
          have hlw : wr.heap.size < (wr.alloc (.cells #[.int .i64 s1, .int .i64 s2] 33)).heap.size := by simp
          have q1 := ((bl_trans hb2 hbB).frozen (p := ⟨wr.heap.size, 0, none⟩) hlw).trans q1
          have q2 := ((bl_trans hb2 hbB).frozen (p := ⟨wr.heap.size, 1, none⟩) hlw).trans q2
          have hbR := bl_trans hbR hbB
          have hlw3 := World.block_lt_of_cell? _ _ d1
          have hn9 : wr.heap.size ≠ w2.heap.size := by have := hb2.size; omega
          clear hb2 hbB x1 x2 HK hlw
          go_wp2_with fail
          obtain ⟨wA, hwA⟩ : ∃ W, w2.alloc (.cells #[.int .i64 kk.1, .int .i64 kk.2] 56) = W := ⟨_, rfl⟩
          rw [hwA] at d1 d2 p1 p2 q1 q2 hbR hlw3
          first | rw [hwA] | skip
          refine (HS.out _).mono ?_
          rintro e w3 ⟨rfl, hb3⟩
          have d1 := cell_later hb3 d1
          have d2 := cell_later hb3 d2
          have p1 := cell_later hb3 p1
          have p2 := cell_later hb3 p2
          have q1 := (hb3.frozen (p := ⟨wr.heap.size, 0, none⟩) hlw3).trans q1
          have q2 := (hb3.frozen (p := ⟨wr.heap.size, 1, none⟩) hlw3).trans q2
          have hbR := bl_trans hbR hb3
          have hbQ := bl_trans HBL.out hbR
          have hlw4 := World.block_lt_of_cell? _ _ d1
          have hlw5 := World.block_lt_of_cell? _ _ p1
          clear hb3 HS hwA hlw3 dd1 dd2 hlw2
          have hbS : Below wr.heap.size wr (w3.setCell ⟨wr.heap.size, 1, none⟩ (.int .i64 st)) := bl_set hbR (p := ⟨wr.heap.size, 1, none⟩) (Nat.le_refl _) (.int .i64 st)
          have HOW := hide (own_below HVV.out hbS)
          have hbT : Below w1.heap.size w1 (w3.setCell ⟨wr.heap.size, 1, none⟩ (.int .i64 st)) := bl_trans HBL.out hbS
          have hsz : (w3.setCell ⟨wr.heap.size, 1, none⟩ (.int .i64 st)).heap.size = w3.heap.size := by simp
          go_wp2_with (at_builtin; (refine wpList_push (w3.setCell ⟨wr.heap.size, 1, none⟩ (.int .i64 st)) rfl _ _ 22 rfl w1.heap.size 33 i0 (.agg #[.int .i64 0, .int .i64 0]) 2 16 Tryz.underlying22 hi0 hz0' hz1 hz2 rfl (by decide) (.slice aV n cV) n (flat ((U.take n).map f)) rfl HOW.out 1 #[.int .i64 s1, .int .i64 st] (by show Value.slice (some ⟨w3.heap.size, 0, none⟩) 1 1 = _; simp) rfl (by simp [Value.oneCell']) (by omega) (by decide) (by have h9 := hbT.size; first | exact h9 | omega) ?_); intro v' w5 hv5 hg5 hat)
          have hbl5 : Below w1.heap.size w1 w5 := bl_own hbT HOW.out hg5 (Nat.le_refl _)
          refine ⟨?_, by first | (simp [intOf]; done) | (simp [intOf]; omega)⟩
          exact FIN _ _ _ HG.out hv5 hbl5
      · obtain rfl : n = U.length := by omega
        have gl : decide (U.length < U.length) = false := by simp
        have ho := HVV.out
        rw [HALL.out] at ho
        have HSP2 := hide (show SpAt wr _ (U.map f) from by rw [← List.length_map (f := f)] at ho; exact own_spatL ho)
        clear ho
        go_wp2_with fail
        refine (HN2.out _ _ HSP2.out).mono ?_
        rintro e w5 ⟨v5, rfl, hb5, ho5⟩
        have hb6 := bl_trans (bl_trans HW1.out (bl_trans HBL.out hb5)) (bl_refl w5)
        have ho6 := own_base ho5 (Nat.le_trans HW1.out.size HBL.out.size)
        clear hb5 ho5
        go_wp2
        go_ret2
        exact ⟨_, rfl, hb6, ho6⟩
end Go.Proofs.YtjcmbnmejkhcjaaGreat
