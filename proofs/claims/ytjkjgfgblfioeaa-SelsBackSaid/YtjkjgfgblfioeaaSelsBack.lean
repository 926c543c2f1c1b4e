/- Of selections of one way the answer is all of that way; a caret alone is itself. Conditions: none beyond the form's own. -/
import Derived.Test.YtjkjgfgblfioeaaRows
import Derived.Test.YtjkjgfgblfioeaaArgs
import Derived.Test.YtjkjgfgblfioeaaSelX
import Derived.Test.YtjkjgfgblfioeaaSelZ
import Derived.Test.YtjkjgfgblfioeaaSymU
import Derived.Test.YtjkjgfgblfioeaaSelQ
import Derived.Test.YtjkjgfgblfioeaaPrArgs
import Derived.Deep.RegionHeld3
import Derived.BigQuiet
import Derived.BigRegion
namespace Go.Proofs.Ytjkjgfgblfioeaa.selsBack
open Go.Proofs.Ytjkjgfgblfioeaa
open Go.ChangeShapes Go.WideShapes Go.ChangeAt Go.RowKit Go.Deep
open Go.ChangeMaps (open_string shut_string)
set_option linter.unusedVariables false

theorem own : ownKnob Try.prog.godebug = none := by kernel_rfl
theorem laidOut : laidOutB Try.prog = true := by kernel_rfl
-- opt:8000000
open SpanM SelM
attribute [local go_sem ↓] Go.wp_at_zero Go.wp_at_succ
attribute [local go_sem] later_cell later_frozen fld_sp0 fld_sp1
theorem low_wi (s : Sp) : Wi 0 60 (low2 s) := by
  have h1 := lowN_lt s.1 61 (by omega)
  have h2 := lowN_lt s.2 61 (by omega)
  unfold Wi low2 ky
  dsimp only
  omega
theorem may_wi {s : Sp} {n : Int} (h : Wi 0 n s) : mayB (ky s) n = true := by
  have := ky_le s
  unfold Wi at h
  unfold mayB
  exact decide_eq_true (by omega)
theorem wi_ends {s : Sp} (h : Wi 0 60 s) : 0 ≤ s.1 ∧ s.1 ≤ 60 ∧ 0 ≤ s.2 ∧ s.2 ≤ 60 := by
  unfold Wi ky at h
  dsimp only at h
  omega
def wayF (b : Bool) (s : Sp) : Sp := if b = true then (max s.1 s.2 + 1, min s.1 s.2) else (min s.1 s.2, max s.1 s.2 + 1)
theorem way_wayF (b : Bool) (s : Sp) : Way b (wayF b s) := by
  unfold Way wayF
  cases b
  · simp only [Bool.false_eq_true, if_false]; omega
  · simp only [if_true]; omega
theorem wi_wayF (b : Bool) {s : Sp} (h : Wi 0 60 s) : Wi 0 61 (wayF b s) := by
  unfold Wi ky wayF at *
  dsimp only at h
  cases b
  · simp only [Bool.false_eq_true, if_false]; omega
  · simp only [if_true]; omega
theorem way_dec (b : Bool) {s : Sp} (h : Way b s) : decide (s.2 < s.1) = b := by
  unfold Way at h
  cases b
  · simp only [Bool.false_eq_true, if_false] at h
    exact decide_eq_false (by omega)
  · simp only [if_true] at h
    exact decide_eq_true h
def mixL (f : Sp → Sp) (l : List Sp) (n : Nat) : List Sp := (l.take n).map f ++ l.drop n
theorem mix_zero (f : Sp → Sp) (l : List Sp) : mixL f l 0 = l := by simp [mixL]
theorem mix_all (f : Sp → Sp) (l : List Sp) : mixL f l l.length = l.map f := by simp [mixL]
theorem mix_len (f : Sp → Sp) (l : List Sp) (n : Nat) (h : n ≤ l.length) : (mixL f l n).length = l.length := by simp [mixL]; omega
theorem mix_at (f : Sp → Sp) (l : List Sp) (n : Nat) (h : n < l.length) (h' : n < (mixL f l n).length) : (mixL f l n)[n] = l[n] := by
  have e : (mixL f l n)[n]? = some l[n] := by
    unfold mixL
    rw [List.getElem?_append_right (by simp; omega), List.length_map, List.length_take, show min n l.length = n by omega, Nat.sub_self, List.drop_eq_getElem_cons h]
    rfl
  rw [List.getElem?_eq_getElem h'] at e
  exact Option.some.inj e
theorem mix_set (f : Sp → Sp) (l : List Sp) (n : Nat) (h : n < l.length) : (mixL f l n).set n (f l[n]) = mixL f l (n + 1) := by
  unfold mixL
  rw [List.set_append_right _ _ (by simp; omega), List.length_map, List.length_take, show min n l.length = n by omega, Nat.sub_self, List.drop_eq_getElem_cons h, List.set_cons_zero, List.take_succ_eq_append_getElem h, List.map_append]
  simp
theorem set_set2 (l : List Sp) (n : Nat) (x y : Sp) : (l.set n x).set n y = l.set n y := by simp
theorem one_norm (x : Int) (h0 : 0 ≤ x) (h1 : x ≤ 60) : nrE 60 [(x, x)] = 0 ∧ nrL 60 [(x, x)] = [(x, x)] := by
  obtain ⟨e1, e2⟩ := nr_good 60 [(x, x)] (by simp) (by simp) (fun k hk => by
    have : k = 0 := by simpa using hk
    subst this
    unfold mayB ky
    exact decide_eq_true (by dsimp only [List.getElem_cons_zero]; omega))
  refine ⟨e1, e2.trans ?_⟩
  rfl
theorem spat_blk {W : World} {b : Nat} {x y : Int} (h : W.heap[b]? = some (.cells #[.int .i64 x, .int .i64 y] 38)) : SpAt W (.slice (some ⟨b, 0, none⟩) 1 1) [(x, y)] := by
  refine .inr ⟨_, 1, rfl, Nat.le_refl _, by decide, fun i hi => ?_⟩
  have : i = 0 := by simpa using hi
  subst this
  rw [addr_add, addr_add]
  constructor <;> (rw [Lib.cell_of_heap h]; rfl)
def BkInv (b : Bool) (l : List Sp) (g c : Nat) (w : World) (i : Value) (wr : World) : Prop :=
  ∃ n : Nat, i = .int .i64 n ∧ n ≤ l.length ∧ Hid (wr.ownsRow w.heap.size 38 2 (.slice (some ⟨g, 0, none⟩) l.length c) l.length (flat (mixL (wayF b) l n))) ∧ Hid (Below w.heap.size w wr)
set_option maxRecDepth 100000 in
set_option maxHeartbeats 8000000 in
theorem walk (a0 : Value) (l0 : List SpanM.Sp) (a1 : Bool) (w : World) (w0 : SpAt w a0 l0) (b0 : ∀ s ∈ l0, Wf s) :
    Calls Try.prog 5 #[a0, .bool a1] w fun e w' => e = .returned (.bool true) ∧ Below w.heap.size w w' := by
  obtain ⟨vA, vc, rfl⟩ := spat_len w0
  by_cases h0 : l0.length = 0
  · have g0 : ((l0.length : Int) == 0) = true := beq_iff_eq.2 (by omega)
    have g0' : (l0.length == 0) = true := beq_iff_eq.2 (by omega)
    clear w0 b0 h0
    go_enter Try.func5, Try.ntmps5
    go_wp2_with fail
    refine (awake8_any _).mono ?_
    rintro e w9 ⟨rfl, hb9⟩
    go_wp2
    go_ret
    exact ⟨rfl, hb9⟩
  by_cases h64 : 64 < l0.length
  · have g0 : ((l0.length : Int) == 0) = false := beq_eq_false_iff_ne.2 (by omega)
    have g0' : (l0.length == 0) = false := beq_eq_false_iff_ne.2 (by omega)
    have g1 : decide ((64 : Int) < (l0.length : Int)) = true := decide_eq_true (by omega)
    have g1' : decide (64 < l0.length) = true := decide_eq_true (by omega)
    clear w0 b0 h0 h64
    go_enter Try.func5, Try.ntmps5
    go_wp2_with fail
    refine (awake8_any _).mono ?_
    rintro e w9 ⟨rfl, hb9⟩
    go_wp2
    go_ret
    exact ⟨rfl, hb9⟩
  have g0 : ((l0.length : Int) == 0) = false := beq_eq_false_iff_ne.2 (by omega)
  have g0' : (l0.length == 0) = false := beq_eq_false_iff_ne.2 (by omega)
  have g1 : decide ((64 : Int) < (l0.length : Int)) = false := decide_eq_false (by omega)
  have g1' : decide (64 < l0.length) = false := decide_eq_false (by omega)
  have hsome := some_any _ l0 w w0 (by omega)
  obtain ⟨l, hl⟩ : ∃ l, l0.map low2 = l := ⟨_, rfl⟩
  have hll : l.length = l0.length := by rw [← hl]; simp
  have hwi : ∀ s ∈ l, Wi 0 60 s := by
    rw [← hl]
    intro s hs
    obtain ⟨t, _, rfl⟩ := List.mem_map.1 hs
    exact low_wi t
  rw [hl] at hsome
  have HLL := hide hll
  rcases a1 with _ | _
  · have hwi2 : ∀ s ∈ l.map (wayF false), Wi 0 61 s := by
      intro s hs
      obtain ⟨t, ht, rfl⟩ := List.mem_map.1 hs
      exact wi_wayF false (hwi t ht)
    have hwy := norm_way false (l.map (wayF false)) (fun s hs => by
      obtain ⟨t, ht, rfl⟩ := List.mem_map.1 hs
      exact way_wayF false t)
    have hml : (l.map (wayF false)).length = l.length := List.length_map _
    have hle := norm_len (l.map (wayF false))
    have hpo := norm_pos (l.map (wayF false)) (by omega)
    obtain ⟨e1, e2⟩ := nr_good 61 (l.map (wayF false)) (by omega) (by omega) (fun k hk => may_wi (hwi2 _ (List.getElem_mem hk)))
    have hn1 := fun (W : World) (v : Value) (h : SpAt W v (l.map (wayF false))) => norm_any stab79 v (l.map (wayF false)) 61 W h (.inl (by omega))
    rw [e1, e2] at hn1
    obtain ⟨U, hU⟩ : ∃ U, mrgF (sortL (l.map (wayF false))) = U := ⟨_, rfl⟩
    rw [hU] at hwy hle hpo hn1
    have hl0 : 0 < l.length := by omega
    have hx0 : Wi 0 61 (wayF false l[0]) := wi_wayF false (hwi _ (List.getElem_mem hl0))
    obtain ⟨x0, hx⟩ : ∃ x0, (wayF false l[0]).1 = x0 := ⟨_, rfl⟩
    have hx1 : 0 ≤ x0 ∧ x0 ≤ 61 := by
      rw [← hx]
      unfold Wi ky at hx0
      dsimp only at hx0
      omega
    obtain ⟨x, hxx⟩ : ∃ x, x0.tmod 60 = x := ⟨_, rfl⟩
    have hx2 : 0 ≤ x ∧ x ≤ 60 := by
      rw [← hxx, Int.tmod_eq_emod_of_nonneg (by omega)]
      omega
    obtain ⟨e3, e4⟩ := one_norm x hx2.1 hx2.2
    have hn2 := fun (W : World) (v : Value) (h : SpAt W v [(x, x)]) => norm_any stab79 v [(x, x)] 60 W h (.inl (by simp))
    rw [e3, e4] at hn2
    have HS := hide hsome
    have HN1 := hide hn1
    have HN2 := hide (fun (W : World) (b : Nat) (hb : W.heap[b]? = some (.cells #[.int .i64 x, .int .i64 x] 38)) => hn2 W _ (spat_blk hb))
    have HWI := hide hwi
    have HWY := hide hwy
    have HX := hide hx
    have HXX := hide hxx
    have HML := hide hml
    have hl64 : l.length ≤ 64 := by omega
    have hU64 : U.length ≤ 64 := by omega
    have x01 := hx1.1
    have x02 := hx1.2
    clear hsome hn1 hn2 hwi hwi2 hwy hU e1 e2 e3 e4 hl hll h0 h64 w0 b0 hml hx hxx hx0 hx1
    go_enter Try.func5, Try.ntmps5
    go_wp2_with fail
    refine HS.out.mono ?_
    rintro e w1 ⟨v1, rfl, hb1, ho1⟩
    rw [← HLL.out] at ho1
    rcases own_form ho1 with ⟨_, q1, q2⟩ | ⟨g, cS, rfl, hgw, q2, q3, q4, q5⟩
    · omega
    unfold maxLen at q4
    have HO1 := hide (show w1.ownsRow w.heap.size 38 2 (.slice (some ⟨g, 0, none⟩) l.length cS) l.length (flat (mixL (wayF false) l 0)) by rw [mix_zero]; exact ho1)
    have HB1 := hide hb1
    clear ho1 g0 g0' g1 g1' HLL HS hb1 q5
    go_wp2
    go_loopw [6] (fun i wr => BkInv false l g cS w i wr) (fun i _ => l.length - (intOf i).toNat)
    case atStart => exact ⟨0, rfl, Nat.zero_le _, HO1, HB1⟩
    case round =>
      clear HO1 HB1
      obtain ⟨n, rfl, hn, HV, HBL⟩ := hrel
      by_cases hlt : n < l.length
      · have gl : decide (n < l.length) = true := decide_eq_true hlt
        have hnM : n < (mixL (wayF false) l n).length := by rw [mix_len _ _ _ hn]; exact hlt
        have hat := mix_at (wayF false) l n hlt hnM
        have hfa := flat_at (mixL (wayF false) l n) n hnM
        rw [hat] at hfa
        have hset := mix_set (wayF false) l n hlt
        obtain ⟨p1, p2, p3, p4⟩ := wi_ends (HWI.out _ (List.getElem_mem hlt))
        have y1 : wr.cell? ⟨g, n * 2, none⟩ = some (.int .i64 l[n].1) := by rw [World.ownsRow.cellAt HV.out (n * 2) (by omega)]; exact hfa.1
        have y2 : wr.cell? ⟨g, n * 2 + 1, none⟩ = some (.int .i64 l[n].2) := by rw [World.ownsRow.cellAt HV.out (n * 2 + 1) (by omega)]; exact hfa.2
        clear hat hfa
        generalize l[n] = s at *
        obtain ⟨s1, s2⟩ := s
        dsimp only at p1 p2 p3 p4 y1 y2
        have HSET := hide hset
        clear hset
        rcases Int.lt_trichotomy s1 s2 with hc | hc | hc
        · have m1 : min s1 s2 = s1 := by omega
          have m2 : max s1 s2 = s2 := by omega
          have d1 : s1 ≤ s2 := by omega
          have d2 : ¬ s2 < s1 := by omega
          have d3 : ¬ s2 ≤ s1 := by omega
          have q1 : IntKind.i64.wrap (s2 + 1) = s2 + 1 := by rw [IntKind.wrap_i64]; omega
          have hs2 : (mixL (wayF false) l n).set n (s1, s2 + 1) = mixL (wayF false) l (n + 1) := by rw [show ((s1, s2 + 1) : Sp) = wayF false (s1, s2) by unfold wayF; simp only [Bool.false_eq_true, if_false, Prod.mk.injEq]; omega]; exact HSET.out
          have HS2 := hide hs2
          clear hs2 p1 p2 p3 p4
          go_wp2
          go_quiet (fail)
          have hq := bl_drewN (bl_refl wr) nq
          have HQ := hide (own_below HV.out hq)
          have HBQ := hide (bl_trans HBL.out hq)
          replace y1 := cell_later hq y1
          replace y2 := cell_later hq y2
          clear hq
          obtain ⟨wq, hwq⟩ : ∃ wq, wr.drewN nq = wq := ⟨_, rfl⟩
          rw [hwq] at HQ HBQ y1 y2 ⊢
          clear hwq
          have yf1 := World.ownsRow.frozenAt HQ.out (n * 2)
          have yf2 := World.ownsRow.frozenAt HQ.out (n * 2 + 1)
          have HA1 := hide (own_put2 HQ.out n hnM (s1, s2 + 1))
          have HB1 := hide (bl_set (bl_set HBQ.out (p := ⟨g, n * 2, none⟩) hgw (.int .i64 s1)) (p := ⟨g, n * 2 + 1, none⟩) hgw (.int .i64 (s2 + 1)))
          have hv' := HA1.out
          rw [HS2.out] at hv'
          have HV' := hide hv'
          clear hv'
          go_wp2
          refine ⟨?_, by first | (simp [intOf]; done) | (simp [intOf]; omega)⟩
          exact ⟨n + 1, by go_num, by omega, HV', HB1⟩
        · subst hc
          have m1 : min s1 s1 = s1 := by omega
          have m2 : max s1 s1 = s1 := by omega
          have d2 : ¬ s1 < s1 := by omega
          have q1 : IntKind.i64.wrap (s1 + 1) = s1 + 1 := by rw [IntKind.wrap_i64]; omega
          have hs2 : (mixL (wayF false) l n).set n (s1, s1 + 1) = mixL (wayF false) l (n + 1) := by rw [show ((s1, s1 + 1) : Sp) = wayF false (s1, s1) by unfold wayF; simp only [Bool.false_eq_true, if_false, Prod.mk.injEq]; omega]; exact HSET.out
          have HS2 := hide hs2
          clear hs2 p1 p2 p3 p4
          go_wp2
          go_quiet (fail)
          have hq := bl_drewN (bl_refl wr) nq
          have HQ := hide (own_below HV.out hq)
          have HBQ := hide (bl_trans HBL.out hq)
          replace y1 := cell_later hq y1
          replace y2 := cell_later hq y2
          clear hq
          obtain ⟨wq, hwq⟩ : ∃ wq, wr.drewN nq = wq := ⟨_, rfl⟩
          rw [hwq] at HQ HBQ y1 y2 ⊢
          clear hwq
          have yf1 := World.ownsRow.frozenAt HQ.out (n * 2)
          have yf2 := World.ownsRow.frozenAt HQ.out (n * 2 + 1)
          have HA1 := hide (own_put2 HQ.out n hnM (s1, s1 + 1))
          have HB1 := hide (bl_set (bl_set HBQ.out (p := ⟨g, n * 2, none⟩) hgw (.int .i64 s1)) (p := ⟨g, n * 2 + 1, none⟩) hgw (.int .i64 (s1 + 1)))
          have hv' := HA1.out
          rw [HS2.out] at hv'
          have HV' := hide hv'
          clear hv'
          go_wp2
          refine ⟨?_, by first | (simp [intOf]; done) | (simp [intOf]; omega)⟩
          exact ⟨n + 1, by go_num, by omega, HV', HB1⟩
        · have m1 : min s1 s2 = s2 := by omega
          have m2 : max s1 s2 = s1 := by omega
          have d1 : s2 ≤ s1 := by omega
          have d2 : ¬ s1 < s2 := by omega
          have d3 : ¬ s1 ≤ s2 := by omega
          have q1 : IntKind.i64.wrap (s1 + 1) = s1 + 1 := by rw [IntKind.wrap_i64]; omega
          have hs2 : (mixL (wayF false) l n).set n (s2, s1 + 1) = mixL (wayF false) l (n + 1) := by rw [show ((s2, s1 + 1) : Sp) = wayF false (s1, s2) by unfold wayF; simp only [Bool.false_eq_true, if_false, Prod.mk.injEq]; omega]; exact HSET.out
          have HS2 := hide hs2
          clear hs2 p1 p2 p3 p4
          go_wp2
          go_quiet (fail)
          have hq := bl_drewN (bl_refl wr) nq
          have HQ := hide (own_below HV.out hq)
          have HBQ := hide (bl_trans HBL.out hq)
          replace y1 := cell_later hq y1
          replace y2 := cell_later hq y2
          clear hq
          obtain ⟨wq, hwq⟩ : ∃ wq, wr.drewN nq = wq := ⟨_, rfl⟩
          rw [hwq] at HQ HBQ y1 y2 ⊢
          clear hwq
          have yf1 := World.ownsRow.frozenAt HQ.out (n * 2)
          have yf2 := World.ownsRow.frozenAt HQ.out (n * 2 + 1)
          have HA1 := hide (own_put2 HQ.out n hnM (s2, s1 + 1))
          have HB1 := hide (bl_set (bl_set HBQ.out (p := ⟨g, n * 2, none⟩) hgw (.int .i64 s2)) (p := ⟨g, n * 2 + 1, none⟩) hgw (.int .i64 (s1 + 1)))
          have hv' := HA1.out
          rw [HS2.out] at hv'
          have HV' := hide hv'
          clear hv'
          go_wp2
          refine ⟨?_, by first | (simp [intOf]; done) | (simp [intOf]; omega)⟩
          exact ⟨n + 1, by go_num, by omega, HV', HB1⟩

      · obtain rfl : n = l.length := by omega
        have gl : decide (l.length < l.length) = false := by simp
        have hv9 := HV.out
        rw [mix_all] at hv9
        have HO9 := hide hv9
        have HS9 := hide (own_spatL (l := l.map (wayF false)) (by rw [HML.out]; exact hv9))
        have z0 : wr.cell? ⟨g, 0, none⟩ = some (.int .i64 x0) := by
          rw [World.ownsRow.cellAt hv9 0 (by omega), ← HX.out]
          have := (flat_at (l.map (wayF false)) 0 (by rw [HML.out]; exact hl0)).1
          rw [List.getElem_map] at this
          exact this
        have HN1b := hide (HN1.out _ _ HS9.out)
        clear hv9 HV hlt HS9 HN1 HML HX HO9
        go_wp2_with fail
        refine HN1b.out.mono ?_
        rintro e w2 ⟨v2, rfl, hb2, ho2⟩
        have SU := hide (own_spatL ho2)
        obtain ⟨aU, cU, rfl⟩ := own_slice ho2
        have z0 := cell_later hb2 z0
        have HB2 := hide (bl_trans HBL.out hb2)
        clear ho2 hb2 HBL HN1b
        go_wp2
        go_loopw [11] (fun i w' => ∃ n m : Nat, i = .int .i64 n ∧ n ≤ U.length ∧ Hid (w2.drewN m = w')) (fun i _ => U.length - (intOf i).toNat)
        case atStart => exact ⟨0, 0, rfl, Nat.zero_le _, hide rfl⟩
        case round =>
          obtain ⟨n, md, rfl, hn, HD⟩ := hrel
          have hd := HD.out
          have hbd : Below w2.heap.size w2 wr := by rw [← hd]; exact bl_drewN (bl_refl w2) md
          by_cases hlt : n < U.length
          · have gl : decide (n < U.length) = true := decide_eq_true hlt
            obtain ⟨x', o', c', hv', _, _, _, hcell⟩ := spat_some (spat_below SU.out hbd) (by omega)
            injection hv' with hv' _ hvc'
            subst hv' hvc'
            obtain ⟨y1, y2⟩ := hcell n hlt
            have gd := way_dec false (HWY.out _ (List.getElem_mem hlt))
            clear hcell z0
            generalize U[n] = s at *
            clear hd hbd
            go_wp2
            go_quiet (fail)
            go_wp2
            refine ⟨?_, by first | (simp [intOf]; done) | (simp [intOf]; omega)⟩
            exact ⟨n + 1, md + nq, by go_num, by omega, hide (by rw [← HD.out, World.drewN_drewN])⟩
          · obtain rfl : n = U.length := by omega
            have gl : decide (U.length < U.length) = false := by simp
            have z0 := cell_later hbd z0
            have HB4 := hide (bl_trans HB2.out hbd)
            clear hd hbd HD HB2 SU HWY hlt
            have hxx := HXX.out
            have gz0 : decide (0 < U.length) = true := decide_eq_true hpo
            have gz1 : decide ((0 : Int) < (U.length : Int)) = true := decide_eq_true (by omega)
            have gz2 : decide (0 < l.length) = true := decide_eq_true hl0
            have hx3 := hx2.1
            have hx4 := hx2.2
            have q1 : IntKind.i64.wrap x = x := by rw [IntKind.wrap_i64]; omega
            clear hx2 hx3 hx4
            go_wp2
            go_region_held3 (fun W => W.cell? ⟨g, 0, none⟩ = some (.int .i64 x0))
              (first
                | go_keep
                | assumption)
              (first
                | (go_at_call 10
                   refine (HN2.out _ _ (by (try refine heap_drew ?_); first | exact heap_new (by simp) | exact heap_old (heap_new (by simp)))).mono ?_
                   rintro e w5 ⟨v5, rfl, hb5, ho5⟩
                   have B5 : Below wr.heap.size wr w5 := bl_trans (by repeat (first | exact bl_refl _ | refine bl_drew ?_ | refine bl_alloc ?_ _)) hb5
                   have z5 := cell_later B5 z0
                   clear hb5)
                | fail)
            all_goals
              rcases own_form ho5 with ⟨_, q5, q6⟩ | ⟨g5, c5, rfl, q5, q6, q7, q8, q9⟩
              · cases q5
              have y1 : w5.cell? ⟨g5, 0, none⟩ = some (.int .i64 x) := by rw [World.ownsRow.cellAt ho5 0 (by simp)]; rfl
              have y2 : w5.cell? ⟨g5, 1, none⟩ = some (.int .i64 x) := by rw [World.ownsRow.cellAt ho5 1 (by simp)]; rfl
              have HB6 := hide (bl_trans HB4.out B5)
              have n1 := World.block_lt_of_cell? _ _ y1
              have n2 := World.block_lt_of_cell? _ _ z5
              clear ho5 q9 B5 z0 q7 q8
              go_wp2
              refine wp_region_later (by kernel_rfl) (by kernel_rfl) ?_
              repeat (go_big_quiet_step (first
                | (go_at_call 9; exact later_call (awake8_any _))
                | exact rfl))
              refine wpQuiet_nil ?_
              rintro w9 ⟨⟨_, hb9⟩, rfl⟩
              go_wp2
              go_ret
              exact ⟨rfl, bl_trans HB6.out hb9⟩
  · have hwi2 : ∀ s ∈ l.map (wayF true), Wi 0 61 s := by
      intro s hs
      obtain ⟨t, ht, rfl⟩ := List.mem_map.1 hs
      exact wi_wayF true (hwi t ht)
    have hwy := norm_way true (l.map (wayF true)) (fun s hs => by
      obtain ⟨t, ht, rfl⟩ := List.mem_map.1 hs
      exact way_wayF true t)
    have hml : (l.map (wayF true)).length = l.length := List.length_map _
    have hle := norm_len (l.map (wayF true))
    have hpo := norm_pos (l.map (wayF true)) (by omega)
    obtain ⟨e1, e2⟩ := nr_good 61 (l.map (wayF true)) (by omega) (by omega) (fun k hk => may_wi (hwi2 _ (List.getElem_mem hk)))
    have hn1 := fun (W : World) (v : Value) (h : SpAt W v (l.map (wayF true))) => norm_any stab79 v (l.map (wayF true)) 61 W h (.inl (by omega))
    rw [e1, e2] at hn1
    obtain ⟨U, hU⟩ : ∃ U, mrgF (sortL (l.map (wayF true))) = U := ⟨_, rfl⟩
    rw [hU] at hwy hle hpo hn1
    have hl0 : 0 < l.length := by omega
    have hx0 : Wi 0 61 (wayF true l[0]) := wi_wayF true (hwi _ (List.getElem_mem hl0))
    obtain ⟨x0, hx⟩ : ∃ x0, (wayF true l[0]).1 = x0 := ⟨_, rfl⟩
    have hx1 : 0 ≤ x0 ∧ x0 ≤ 61 := by
      rw [← hx]
      unfold Wi ky at hx0
      dsimp only at hx0
      omega
    obtain ⟨x, hxx⟩ : ∃ x, x0.tmod 60 = x := ⟨_, rfl⟩
    have hx2 : 0 ≤ x ∧ x ≤ 60 := by
      rw [← hxx, Int.tmod_eq_emod_of_nonneg (by omega)]
      omega
    obtain ⟨e3, e4⟩ := one_norm x hx2.1 hx2.2
    have hn2 := fun (W : World) (v : Value) (h : SpAt W v [(x, x)]) => norm_any stab79 v [(x, x)] 60 W h (.inl (by simp))
    rw [e3, e4] at hn2
    have HS := hide hsome
    have HN1 := hide hn1
    have HN2 := hide (fun (W : World) (b : Nat) (hb : W.heap[b]? = some (.cells #[.int .i64 x, .int .i64 x] 38)) => hn2 W _ (spat_blk hb))
    have HWI := hide hwi
    have HWY := hide hwy
    have HX := hide hx
    have HXX := hide hxx
    have HML := hide hml
    have hl64 : l.length ≤ 64 := by omega
    have hU64 : U.length ≤ 64 := by omega
    have x01 := hx1.1
    have x02 := hx1.2
    clear hsome hn1 hn2 hwi hwi2 hwy hU e1 e2 e3 e4 hl hll h0 h64 w0 b0 hml hx hxx hx0 hx1
    go_enter Try.func5, Try.ntmps5
    go_wp2_with fail
    refine HS.out.mono ?_
    rintro e w1 ⟨v1, rfl, hb1, ho1⟩
    rw [← HLL.out] at ho1
    rcases own_form ho1 with ⟨_, q1, q2⟩ | ⟨g, cS, rfl, hgw, q2, q3, q4, q5⟩
    · omega
    unfold maxLen at q4
    have HO1 := hide (show w1.ownsRow w.heap.size 38 2 (.slice (some ⟨g, 0, none⟩) l.length cS) l.length (flat (mixL (wayF true) l 0)) by rw [mix_zero]; exact ho1)
    have HB1 := hide hb1
    clear ho1 g0 g0' g1 g1' HLL HS hb1 q5
    go_wp2
    go_loopw [6] (fun i wr => BkInv true l g cS w i wr) (fun i _ => l.length - (intOf i).toNat)
    case atStart => exact ⟨0, rfl, Nat.zero_le _, HO1, HB1⟩
    case round =>
      clear HO1 HB1
      obtain ⟨n, rfl, hn, HV, HBL⟩ := hrel
      by_cases hlt : n < l.length
      · have gl : decide (n < l.length) = true := decide_eq_true hlt
        have hnM : n < (mixL (wayF true) l n).length := by rw [mix_len _ _ _ hn]; exact hlt
        have hat := mix_at (wayF true) l n hlt hnM
        have hfa := flat_at (mixL (wayF true) l n) n hnM
        rw [hat] at hfa
        have hset := mix_set (wayF true) l n hlt
        obtain ⟨p1, p2, p3, p4⟩ := wi_ends (HWI.out _ (List.getElem_mem hlt))
        have y1 : wr.cell? ⟨g, n * 2, none⟩ = some (.int .i64 l[n].1) := by rw [World.ownsRow.cellAt HV.out (n * 2) (by omega)]; exact hfa.1
        have y2 : wr.cell? ⟨g, n * 2 + 1, none⟩ = some (.int .i64 l[n].2) := by rw [World.ownsRow.cellAt HV.out (n * 2 + 1) (by omega)]; exact hfa.2
        clear hat hfa
        generalize l[n] = s at *
        obtain ⟨s1, s2⟩ := s
        dsimp only at p1 p2 p3 p4 y1 y2
        have HSET := hide hset
        clear hset
        rcases Int.lt_trichotomy s1 s2 with hc | hc | hc
        · have m1 : min s1 s2 = s1 := by omega
          have m2 : max s1 s2 = s2 := by omega
          have d1 : s1 ≤ s2 := by omega
          have d2 : ¬ s2 < s1 := by omega
          have d3 : ¬ s2 ≤ s1 := by omega
          have q1 : IntKind.i64.wrap (s2 + 1) = s2 + 1 := by rw [IntKind.wrap_i64]; omega
          have hs2 : (mixL (wayF true) l n).set n (s2 + 1, s1) = mixL (wayF true) l (n + 1) := by rw [show ((s2 + 1, s1) : Sp) = wayF true (s1, s2) by unfold wayF; simp only [if_true, Prod.mk.injEq]; omega]; exact HSET.out
          have HS2 := hide hs2
          clear hs2 p1 p2 p3 p4
          go_wp2
          go_quiet (fail)
          have hq := bl_drewN (bl_refl wr) nq
          have HQ := hide (own_below HV.out hq)
          have HBQ := hide (bl_trans HBL.out hq)
          replace y1 := cell_later hq y1
          replace y2 := cell_later hq y2
          clear hq
          obtain ⟨wq, hwq⟩ : ∃ wq, wr.drewN nq = wq := ⟨_, rfl⟩
          rw [hwq] at HQ HBQ y1 y2 ⊢
          clear hwq
          have yf1 := World.ownsRow.frozenAt HQ.out (n * 2)
          have yf2 := World.ownsRow.frozenAt HQ.out (n * 2 + 1)
          have HA1 := hide (own_put2 HQ.out n hnM (s1, s2 + 1))
          have HB1 := hide (bl_set (bl_set HBQ.out (p := ⟨g, n * 2, none⟩) hgw (.int .i64 s1)) (p := ⟨g, n * 2 + 1, none⟩) hgw (.int .i64 (s2 + 1)))
          have HA2 := hide (own_put2 HA1.out n (by rw [List.length_set]; exact hnM) (s2 + 1, s1))
          have HB2 := hide (bl_set (bl_set HB1.out (p := ⟨g, n * 2, none⟩) hgw (.int .i64 (s2 + 1))) (p := ⟨g, n * 2 + 1, none⟩) hgw (.int .i64 s1))
          have hv' := HA2.out
          have yf3 := World.ownsRow.frozenAt HA1.out (n * 2)
          have yf4 := World.ownsRow.frozenAt HA1.out (n * 2 + 1)
          rw [set_set2, HS2.out] at hv'
          have HV' := hide hv'
          clear hv'
          go_wp2
          refine ⟨?_, by first | (simp [intOf]; done) | (simp [intOf]; omega)⟩
          exact ⟨n + 1, by go_num, by omega, HV', HB2⟩
        · subst hc
          have m1 : min s1 s1 = s1 := by omega
          have m2 : max s1 s1 = s1 := by omega
          have d2 : ¬ s1 < s1 := by omega
          have q1 : IntKind.i64.wrap (s1 + 1) = s1 + 1 := by rw [IntKind.wrap_i64]; omega
          have hs2 : (mixL (wayF true) l n).set n (s1 + 1, s1) = mixL (wayF true) l (n + 1) := by rw [show ((s1 + 1, s1) : Sp) = wayF true (s1, s1) by unfold wayF; simp only [if_true, Prod.mk.injEq]; omega]; exact HSET.out
          have HS2 := hide hs2
          clear hs2 p1 p2 p3 p4
          go_wp2
          go_quiet (fail)
          have hq := bl_drewN (bl_refl wr) nq
          have HQ := hide (own_below HV.out hq)
          have HBQ := hide (bl_trans HBL.out hq)
          replace y1 := cell_later hq y1
          replace y2 := cell_later hq y2
          clear hq
          obtain ⟨wq, hwq⟩ : ∃ wq, wr.drewN nq = wq := ⟨_, rfl⟩
          rw [hwq] at HQ HBQ y1 y2 ⊢
          clear hwq
          have yf1 := World.ownsRow.frozenAt HQ.out (n * 2)
          have yf2 := World.ownsRow.frozenAt HQ.out (n * 2 + 1)
          have HA1 := hide (own_put2 HQ.out n hnM (s1, s1 + 1))
          have HB1 := hide (bl_set (bl_set HBQ.out (p := ⟨g, n * 2, none⟩) hgw (.int .i64 s1)) (p := ⟨g, n * 2 + 1, none⟩) hgw (.int .i64 (s1 + 1)))
          have HA2 := hide (own_put2 HA1.out n (by rw [List.length_set]; exact hnM) (s1 + 1, s1))
          have HB2 := hide (bl_set (bl_set HB1.out (p := ⟨g, n * 2, none⟩) hgw (.int .i64 (s1 + 1))) (p := ⟨g, n * 2 + 1, none⟩) hgw (.int .i64 s1))
          have hv' := HA2.out
          have yf3 := World.ownsRow.frozenAt HA1.out (n * 2)
          have yf4 := World.ownsRow.frozenAt HA1.out (n * 2 + 1)
          rw [set_set2, HS2.out] at hv'
          have HV' := hide hv'
          clear hv'
          go_wp2
          refine ⟨?_, by first | (simp [intOf]; done) | (simp [intOf]; omega)⟩
          exact ⟨n + 1, by go_num, by omega, HV', HB2⟩
        · have m1 : min s1 s2 = s2 := by omega
          have m2 : max s1 s2 = s1 := by omega
          have d1 : s2 ≤ s1 := by omega
          have d2 : ¬ s1 < s2 := by omega
          have d3 : ¬ s1 ≤ s2 := by omega
          have q1 : IntKind.i64.wrap (s1 + 1) = s1 + 1 := by rw [IntKind.wrap_i64]; omega
          have hs2 : (mixL (wayF true) l n).set n (s1 + 1, s2) = mixL (wayF true) l (n + 1) := by rw [show ((s1 + 1, s2) : Sp) = wayF true (s1, s2) by unfold wayF; simp only [if_true, Prod.mk.injEq]; omega]; exact HSET.out
          have HS2 := hide hs2
          clear hs2 p1 p2 p3 p4
          go_wp2
          go_quiet (fail)
          have hq := bl_drewN (bl_refl wr) nq
          have HQ := hide (own_below HV.out hq)
          have HBQ := hide (bl_trans HBL.out hq)
          replace y1 := cell_later hq y1
          replace y2 := cell_later hq y2
          clear hq
          obtain ⟨wq, hwq⟩ : ∃ wq, wr.drewN nq = wq := ⟨_, rfl⟩
          rw [hwq] at HQ HBQ y1 y2 ⊢
          clear hwq
          have yf1 := World.ownsRow.frozenAt HQ.out (n * 2)
          have yf2 := World.ownsRow.frozenAt HQ.out (n * 2 + 1)
          have HA1 := hide (own_put2 HQ.out n hnM (s2, s1 + 1))
          have HB1 := hide (bl_set (bl_set HBQ.out (p := ⟨g, n * 2, none⟩) hgw (.int .i64 s2)) (p := ⟨g, n * 2 + 1, none⟩) hgw (.int .i64 (s1 + 1)))
          have HA2 := hide (own_put2 HA1.out n (by rw [List.length_set]; exact hnM) (s1 + 1, s2))
          have HB2 := hide (bl_set (bl_set HB1.out (p := ⟨g, n * 2, none⟩) hgw (.int .i64 (s1 + 1))) (p := ⟨g, n * 2 + 1, none⟩) hgw (.int .i64 s2))
          have hv' := HA2.out
          have yf3 := World.ownsRow.frozenAt HA1.out (n * 2)
          have yf4 := World.ownsRow.frozenAt HA1.out (n * 2 + 1)
          rw [set_set2, HS2.out] at hv'
          have HV' := hide hv'
          clear hv'
          go_wp2
          refine ⟨?_, by first | (simp [intOf]; done) | (simp [intOf]; omega)⟩
          exact ⟨n + 1, by go_num, by omega, HV', HB2⟩

      · obtain rfl : n = l.length := by omega
        have gl : decide (l.length < l.length) = false := by simp
        have hv9 := HV.out
        rw [mix_all] at hv9
        have HO9 := hide hv9
        have HS9 := hide (own_spatL (l := l.map (wayF true)) (by rw [HML.out]; exact hv9))
        have z0 : wr.cell? ⟨g, 0, none⟩ = some (.int .i64 x0) := by
          rw [World.ownsRow.cellAt hv9 0 (by omega), ← HX.out]
          have := (flat_at (l.map (wayF true)) 0 (by rw [HML.out]; exact hl0)).1
          rw [List.getElem_map] at this
          exact this
        have HN1b := hide (HN1.out _ _ HS9.out)
        clear hv9 HV hlt HS9 HN1 HML HX HO9
        go_wp2_with fail
        refine HN1b.out.mono ?_
        rintro e w2 ⟨v2, rfl, hb2, ho2⟩
        have SU := hide (own_spatL ho2)
        obtain ⟨aU, cU, rfl⟩ := own_slice ho2
        have z0 := cell_later hb2 z0
        have HB2 := hide (bl_trans HBL.out hb2)
        clear ho2 hb2 HBL HN1b
        go_wp2
        go_loopw [11] (fun i w' => ∃ n m : Nat, i = .int .i64 n ∧ n ≤ U.length ∧ Hid (w2.drewN m = w')) (fun i _ => U.length - (intOf i).toNat)
        case atStart => exact ⟨0, 0, rfl, Nat.zero_le _, hide rfl⟩
        case round =>
          obtain ⟨n, md, rfl, hn, HD⟩ := hrel
          have hd := HD.out
          have hbd : Below w2.heap.size w2 wr := by rw [← hd]; exact bl_drewN (bl_refl w2) md
          by_cases hlt : n < U.length
          · have gl : decide (n < U.length) = true := decide_eq_true hlt
            obtain ⟨x', o', c', hv', _, _, _, hcell⟩ := spat_some (spat_below SU.out hbd) (by omega)
            injection hv' with hv' _ hvc'
            subst hv' hvc'
            obtain ⟨y1, y2⟩ := hcell n hlt
            have gd := way_dec true (HWY.out _ (List.getElem_mem hlt))
            clear hcell z0
            generalize U[n] = s at *
            clear hd hbd
            go_wp2
            go_quiet (fail)
            go_wp2
            refine ⟨?_, by first | (simp [intOf]; done) | (simp [intOf]; omega)⟩
            exact ⟨n + 1, md + nq, by go_num, by omega, hide (by rw [← HD.out, World.drewN_drewN])⟩
          · obtain rfl : n = U.length := by omega
            have gl : decide (U.length < U.length) = false := by simp
            have z0 := cell_later hbd z0
            have HB4 := hide (bl_trans HB2.out hbd)
            clear hd hbd HD HB2 SU HWY hlt
            have hxx := HXX.out
            have gz0 : decide (0 < U.length) = true := decide_eq_true hpo
            have gz1 : decide ((0 : Int) < (U.length : Int)) = true := decide_eq_true (by omega)
            have gz2 : decide (0 < l.length) = true := decide_eq_true hl0
            have hx3 := hx2.1
            have hx4 := hx2.2
            have q1 : IntKind.i64.wrap x = x := by rw [IntKind.wrap_i64]; omega
            clear hx2 hx3 hx4
            go_wp2
            go_region_held3 (fun W => W.cell? ⟨g, 0, none⟩ = some (.int .i64 x0))
              (first
                | go_keep
                | assumption)
              (first
                | (go_at_call 10
                   refine (HN2.out _ _ (by (try refine heap_drew ?_); first | exact heap_new (by simp) | exact heap_old (heap_new (by simp)))).mono ?_
                   rintro e w5 ⟨v5, rfl, hb5, ho5⟩
                   have B5 : Below wr.heap.size wr w5 := bl_trans (by repeat (first | exact bl_refl _ | refine bl_drew ?_ | refine bl_alloc ?_ _)) hb5
                   have z5 := cell_later B5 z0
                   clear hb5)
                | fail)
            all_goals
              rcases own_form ho5 with ⟨_, q5, q6⟩ | ⟨g5, c5, rfl, q5, q6, q7, q8, q9⟩
              · cases q5
              have y1 : w5.cell? ⟨g5, 0, none⟩ = some (.int .i64 x) := by rw [World.ownsRow.cellAt ho5 0 (by simp)]; rfl
              have y2 : w5.cell? ⟨g5, 1, none⟩ = some (.int .i64 x) := by rw [World.ownsRow.cellAt ho5 1 (by simp)]; rfl
              have HB6 := hide (bl_trans HB4.out B5)
              have n1 := World.block_lt_of_cell? _ _ y1
              have n2 := World.block_lt_of_cell? _ _ z5
              clear ho5 q9 B5 z0 q7 q8
              go_wp2
              refine wp_region_later (by kernel_rfl) (by kernel_rfl) ?_
              repeat (go_big_quiet_step (first
                | (go_at_call 9; exact later_call (awake8_any _))
                | exact rfl))
              refine wpQuiet_nil ?_
              rintro w9 ⟨⟨_, hb9⟩, rfl⟩
              go_wp2
              go_ret
              exact ⟨rfl, bl_trans HB6.out hb9⟩

set_option maxRecDepth 100000 in
theorem lifted (os : Os) (started : os.Started) (H : Type) (enc : TypeId × Value → H) :
    ReturnsInHanded {} Try.checked os 5 .any (Rows.selsBackSpec.pre6 enc Try.prog Try.f5 Rows.selsBackRow.domain false) (Rows.selsBackSpec.post enc Try.prog Try.f5 false true false false) := by
  refine returnsInHanded_of_change (C := Try.checked) own started (by kernel_rfl) Try.func5
    (ChangeSpec.witness6 (enc := enc) (C := Try.checked) false ⟨#[], #[.slice none 0 0, .bool false], []⟩ 8 (by kernel_rfl) (by kernel_rfl) (by kernel_rfl) (by kernel_rfl)) ?_
  intro W base args ds gs before hval0 hW hcnd _
  have hval : ∀ (j : Nat) t v, Try.f5.params[j]? = some t → args[j]? = some v → Value.okWide Try.prog W .any base t v := hval0
  have hW' := hW
  obtain ⟨p, q, hA0, hV, rfl, hfz, hnd⟩ := hW
  have hA : DataW.TrodAll enc Try.prog W 0 (fun _ => true) true Try.f5.params.toList args.toList ds p := hA0
  rw [Try.params5] at hA hval
  obtain ⟨v0, vs0, d0, ds0, p0, q0, hargs, rfl, rfl, h0, r0⟩ := trodAll_cons hA
  obtain ⟨v1, vs1, d1, ds1, p1, q1, rfl, rfl, rfl, h1, r1⟩ := trodAll_cons r0
  obtain ⟨rfl, rfl, rfl⟩ := trodAll_nil r1
  obtain rfl : args = #[v0, v1] := by cases args; simp_all
  obtain ⟨rfl, rfl⟩ := trodVars_none hV
  have k0 := h0
  have lt0 : ∀ x ∈ p0, x.block < W.heap.size := by obtain ⟨m, hm⟩ := k0; exact DataW.trod_lt m _ _ _ hm
  obtain ⟨l0, w0, b0⟩ := open_pairs (hval 0 23 v0 rfl rfl) h0
  have k1 := h1
  have lt1 : ∀ x ∈ p1, x.block < W.heap.size := by obtain ⟨m, hm⟩ := k1; exact DataW.trod_lt m _ _ _ hm
  obtain ⟨a1, rfl, hd1, hp1⟩ := open_bool Try.underlying4 (hval 1 4 v1 rfl rfl) h1
  clear hA0 hval0
  refine (walk v0 l0 a1 W w0 b0).mono fun e W' ⟨he, bel⟩ => ?_
  subst he
  exact ⟨_, rfl, _, _, _, [], _, [], hW', trodAll_mk1 (shut_bool Try.underlying4 _), (trodAll_cons_mk (Below.trod laidOut (by kernel_rfl) (of_decide_eq_true (by kernel_rfl)) k0 bel lt0) (trodAll_cons_mk (Below.trod laidOut (by kernel_rfl) (of_decide_eq_true (by kernel_rfl)) k1 bel lt1) trodAll_mk0)), rfl, bel.frame _, fun h => by cases h⟩

theorem over : Rows.selsBackRow.holds Try.pinned (OpenSpec.ofChange Rows.selsBackSpec) :=
  OpenClaim.holds_of_wide 5 Try.f5 rfl rfl rfl rfl rfl rfl rfl ⟨rfl, rfl, rfl, rfl, rfl⟩ rfl rfl rfl rfl rfl (by kernel_rfl) Try.func5 (by kernel_rfl)
    (of_decide_eq_true (by kernel_rfl)) (by unfold Func.isWrapper; first | (rw [if_pos (by decide +kernel)]; kernel_rfl) | (rw [if_neg (by decide +kernel)]; exact ⟨rfl, rfl⟩))
    (fun os started H enc _ => lifted os started H enc)

theorem proved : Rows.SelsBackSaid := over
end Go.Proofs.Ytjkjgfgblfioeaa.selsBack
