/- Selections moved along by some bytes, in a text that much longer, are put in order as they were, moved along. Conditions: none beyond the form's own. -/
import Derived.Test.YtjkjgfgblfioeaaRows
import Derived.Test.YtjkjgfgblfioeaaArgs
import Derived.Test.YtjkjgfgblfioeaaSelX
import Derived.Test.YtjkjgfgblfioeaaSelZ
import Derived.Test.YtjkjgfgblfioeaaSymU
import Derived.Test.YtjkjgfgblfioeaaSelQ
import Derived.Test.YtjkjgfgblfioeaaPrArgs
import Derived.Deep.RegionHeld3
import Derived.BigQuiet
namespace Go.Proofs.Ytjkjgfgblfioeaa.selsAlong
open Go.Proofs.Ytjkjgfgblfioeaa
open Go.ChangeShapes Go.WideShapes Go.ChangeAt Go.RowKit Go.Deep
open Go.ChangeMaps (open_string shut_string)
set_option linter.unusedVariables false

theorem own : ownKnob Try.prog.godebug = none := by kernel_rfl
theorem laidOut : laidOutB Try.prog = true := by kernel_rfl
-- opt:8000000
open SpanM SelM
attribute [local go_sem ↓] Go.wp_at_zero Go.wp_at_succ
attribute [local go_sem] later_cell later_frozen fld_sp0 fld_sp1
theorem low_wi (s : Sp) : Wi 0 60 (low2 s) := by
  have h1 := lowN_lt s.1 61 (by omega)
  have h2 := lowN_lt s.2 61 (by omega)
  unfold Wi low2 ky
  dsimp only
  omega
theorem may_wi {s : Sp} {n : Int} (h : Wi 0 n s) : mayB (ky s) n = true := by
  have := ky_le s
  unfold Wi at h
  unfold mayB
  exact decide_eq_true (by omega)
theorem may_al {s : Sp} (k : Nat) (h : Wi 0 60 s) : mayB (ky (alongS k s)) (60 + k) = true := by
  have := ky_le s
  unfold Wi at h
  rw [ky_along]
  unfold mayB alongS
  exact decide_eq_true (by dsimp only; omega)
theorem wi_ends {s : Sp} (h : Wi 0 60 s) : 0 ≤ s.1 ∧ s.1 ≤ 60 ∧ 0 ≤ s.2 ∧ s.2 ≤ 60 := by
  unfold Wi ky at h
  dsimp only at h
  omega
def AlInv (l : List Sp) (kk : Nat) (w0 : World) (m i : Value) (wr : World) : Prop :=
  ∃ n : Nat, i = .int .i64 n ∧ n ≤ l.length ∧ Hid (wr.ownsRow w0.heap.size 38 2 m n (flat ((l.take n).map (alongS kk)))) ∧ Hid (Below w0.heap.size w0 wr)
set_option maxRecDepth 100000 in
set_option maxHeartbeats 8000000 in
theorem walk (a0 : Value) (l0 : List SpanM.Sp) (a1 : Int) (w : World) (w0 : SpAt w a0 l0) (b0 : ∀ s ∈ l0, Wf s) (w1 : (Lit.int .i64 a1).wf = true) :
    Calls Try.prog 8 #[a0, .int .i64 a1] w fun e w' => e = .returned (.bool true) ∧ Below w.heap.size w w' := by
  obtain ⟨i0, hi0, hz0', hz1, hz2⟩ := info_parts info_sl
  have hlow := low_any a1 901
  have hkk := lowN_lt a1 901 (by omega)
  generalize lowN a1 901 = kk at *
  have HLOW := hide (fun W => hlow W (by omega) (by omega))
  clear hlow
  obtain ⟨vA, vc, rfl⟩ := spat_len w0
  by_cases h0 : l0.length = 0
  · have g0 : ((l0.length : Int) == 0) = true := beq_iff_eq.2 (by omega)
    have g0' : (l0.length == 0) = true := beq_iff_eq.2 (by omega)
    clear w0 b0 h0
    go_enter Try.func8, Try.ntmps8
    go_wp2_with fail
    refine (awake8_any _).mono ?_
    rintro e w9 ⟨rfl, hb9⟩
    go_wp2
    go_ret
    exact ⟨rfl, hb9⟩
  by_cases h64 : 64 < l0.length
  · have g0 : ((l0.length : Int) == 0) = false := beq_eq_false_iff_ne.2 (by omega)
    have g0' : (l0.length == 0) = false := beq_eq_false_iff_ne.2 (by omega)
    have g1 : decide ((64 : Int) < (l0.length : Int)) = true := decide_eq_true (by omega)
    have g1' : decide (64 < l0.length) = true := decide_eq_true (by omega)
    clear w0 b0 h0 h64
    go_enter Try.func8, Try.ntmps8
    go_wp2_with fail
    refine (awake8_any _).mono ?_
    rintro e w9 ⟨rfl, hb9⟩
    go_wp2
    go_ret
    exact ⟨rfl, hb9⟩
  have g0 : ((l0.length : Int) == 0) = false := beq_eq_false_iff_ne.2 (by omega)
  have g0' : (l0.length == 0) = false := beq_eq_false_iff_ne.2 (by omega)
  have g1 : decide ((64 : Int) < (l0.length : Int)) = false := decide_eq_false (by omega)
  have g1' : decide (64 < l0.length) = false := decide_eq_false (by omega)
  have hsome := some_any _ l0 w w0 (by omega)
  obtain ⟨l, hl⟩ : ∃ l, l0.map low2 = l := ⟨_, rfl⟩
  have hll : l.length = l0.length := by rw [← hl]; simp
  have hwi : ∀ s ∈ l, Wi 0 60 s := by
    rw [← hl]
    intro s hs
    obtain ⟨t, _, rfl⟩ := List.mem_map.1 hs
    exact low_wi t
  rw [hl] at hsome
  have HLL := hide hll
  have hwu := norm_wi 0 60 l hwi
  have hle := norm_len l
  have hal := norm_along kk l
  have hml : (l.map (alongS kk)).length = l.length := List.length_map _
  obtain ⟨e1, e2⟩ := nr_good 60 l (by omega) (by omega) (fun k hk => may_wi (hwi _ (List.getElem_mem hk)))
  obtain ⟨e3, e4⟩ := nr_good (60 + (kk : Int)) (l.map (alongS kk)) (by omega) (by omega) (fun k hk => by rw [List.getElem_map]; exact may_al kk (hwi _ (List.getElem_mem (by omega))))
  have hn1 := fun (W : World) (v : Value) (h : SpAt W v l) => norm_any stab79 v l 60 W h (.inl (by omega))
  have hn2 := fun (W : World) (v : Value) (h : SpAt W v (l.map (alongS kk))) => norm_any stab79 v (l.map (alongS kk)) (60 + (kk : Int)) W h (.inl (by omega))
  rw [e1, e2] at hn1
  rw [e3, e4, hal] at hn2
  obtain ⟨U, hU⟩ : ∃ U, mrgF (sortL l) = U := ⟨_, rfl⟩
  rw [hU] at hwu hle hn1 hn2
  have HS := hide hsome
  have HN1 := hide hn1
  have HN2 := hide hn2
  have HWI := hide hwi
  have HWU := hide hwu
  have hl64 : l.length ≤ 64 := by omega
  have hU64 : U.length ≤ 64 := by omega
  have HML := hide hml
  clear hsome hn1 hn2 hal hwu hwi hU e1 e2 e3 e4 hl hll h0 h64 w0 b0 hml
  go_enter Try.func8, Try.ntmps8
  go_wp2_with fail
  refine (HLOW.out _).mono ?_
  rintro e wl ⟨rfl, hwl⟩
  subst hwl
  go_wp2_with fail
  refine HS.out.mono ?_
  rintro e w1 ⟨v1, rfl, hb1, ho1⟩
  rw [← HLL.out] at ho1
  have HS1 := hide (own_spatL ho1)
  obtain ⟨aS, cS, rfl⟩ := own_slice ho1
  have HB1 := hide hb1
  clear ho1 g0 g0' g1 g1' HLL HS hb1
  go_wp2
  go_loopw [7, 8] (fun m i wr => AlInv l kk w1 m i wr) (fun _ i _ => l.length - (intOf i).toNat)
  case atStart => exact ⟨0, rfl, Nat.zero_le _, hide ⟨rfl, .inl ⟨rfl, rfl⟩⟩, hide (bl_refl w1)⟩
  case round =>
    obtain ⟨n, rfl, hn, HV, HBL⟩ := hrel
    obtain ⟨aV, cV, rfl⟩ := own_slice HV.out
    by_cases hlt : n < l.length
    · have gl : decide (n < l.length) = true := decide_eq_true hlt
      obtain ⟨b1, o1, c1', hv1, hc1, hm1, hlb1, hcell1⟩ := spat_some HS1.out (by omega)
      injection hv1 with hv1 _ hv1c
      subst hv1 hv1c
      unfold maxLen at hm1
      have x1 := cell_later HBL.out (hcell1 n hlt).1
      have x2 := cell_later HBL.out (hcell1 n hlt).2
      have ag : (Value.slice aV n cV).ownBlock ≠ some b1 := fun h => by have := (World.ownsRow.lt HV.out _ h).1; omega
      have hsu : flat ((l.take n).map (alongS kk)) ++ [Value.int .i64 (l[n].1 + kk), .int .i64 (l[n].2 + kk)] = flat ((l.take (n + 1)).map (alongS kk)) := by
        rw [List.take_succ_eq_append_getElem hlt, List.map_append, flat_app]; rfl
      obtain ⟨p1, p2, p3, p4⟩ := wi_ends (HWI.out _ (List.getElem_mem hlt))
      clear hcell1 hm1
      generalize l[n] = s at *
      obtain ⟨s1, s2⟩ := s
      have q1 : IntKind.i64.wrap (s1 + (kk : Int)) = s1 + (kk : Int) := by rw [IntKind.wrap_i64]; dsimp only at *; omega
      have q2 : IntKind.i64.wrap (s2 + (kk : Int)) = s2 + (kk : Int) := by rw [IntKind.wrap_i64]; dsimp only at *; omega
      have HSU := hide hsu
      have hws := HBL.out.size
      have HKEEP := hide (fun W (hh : Below wr.heap.size wr W) => And.intro (cell_later hh x1) (cell_later hh x2))
      clear hsu p1 p2 p3 p4
      go_wp2
      go_region_held3 (fun W => W.cell? ⟨b1, o1 + n * 2, none⟩ = some (.int .i64 s1) ∧ W.cell? ⟨b1, o1 + n * 2 + 1, none⟩ = some (.int .i64 s2))
        (first
          | go_keep
          | (refine HKEEP.out _ ?_; first | assumption | exact bl_refl _ | exact bl_drew (bl_refl _) | exact bl_alloc (bl_refl _) _ | exact bl_drew (bl_alloc (bl_refl _) _) | exact bl_alloc (bl_drew (bl_refl _)) _)
          | (go_split_ands
             refine ⟨?_, ?_⟩
             · (rw [hg8.cell_far _ (by simp; omega) (Ne.symm ag)]; assumption)
             · (rw [hg8.cell_far _ (by simp; omega) (Ne.symm ag)]; assumption)))
        (first
          | (refine step_src _ (by rfl) (.tmp 33) (.tmp 49) 22 (by rfl) w1.heap.size 38 i0 (.agg #[.int .i64 0, .int .i64 0]) 2 16 Try.underlying22 hi0 hz0' hz1 hz2 rfl (by decide) (.slice aV n cV) n (flat ((l.take n).map (alongS kk))) (by rfl) (own_below HV.out (by repeat (first | exact bl_refl _ | refine bl_drew ?_ | refine bl_alloc ?_ _))) (some ⟨_, 0, none⟩) 1 1 [.int .i64 (s1 + kk), .int .i64 (s2 + kk)] (by rfl) (src_block (cs := #[.int .i64 (s1 + kk), .int .i64 (s2 + kk)]) (by (try refine heap_drew ?_); first | exact heap_new (by simp) | exact heap_old (heap_new (by simp))) rfl) (by simp [Value.oneCell']) (by omega) (by decide) (by simp; omega) ?_; intro v8 w8 hv8 hg8; have B8 := bl_grown (a := w1) (bl_trans HBL.out (by repeat (first | exact bl_refl _ | refine bl_drew ?_ | refine bl_alloc ?_ _))) hg8 (fun j hj => (World.ownsRow.lt HV.out j hj).1))
          | fail)
      all_goals
        rw [HSU.out] at hv8
        have HV8 := hide hv8
        have HB8 := hide B8
        clear hv8 hg8 B8
        go_wp2
        refine ⟨?_, by first | (simp [intOf]; done) | (simp [intOf]; omega)⟩
        exact ⟨n + 1, by go_num, by omega, HV8, HB8⟩
    · obtain rfl : n = l.length := by omega
      have gl : decide (l.length < l.length) = false := by simp
      have hv9 := HV.out
      rw [List.take_of_length_le (Nat.le_refl _)] at hv9
      have S1 := spat_below HS1.out HBL.out
      have S2 := own_spatL (l := l.map (alongS kk)) (by rw [HML.out]; exact hv9)
      clear hv9 HV HS1 hlt
      have q1 : IntKind.i64.wrap (60 + (kk : Int)) = 60 + (kk : Int) := by rw [IntKind.wrap_i64]; omega
      go_wp2_with fail
      refine (HN1.out _ _ S1).mono ?_
      rintro e w2 ⟨v2, rfl, hb2, ho2⟩
      have S2 := spat_below S2 hb2
      have SU := own_spatL ho2
      obtain ⟨aU, cU, rfl⟩ := own_slice ho2
      clear ho2 S1
      go_wp2_with fail
      refine (HN2.out _ _ S2).mono ?_
      rintro e w3 ⟨v3, rfl, hb3, ho3⟩
      have SU := spat_below SU hb3
      have ST := own_spatL ho3
      obtain ⟨aT, cT, rfl⟩ := own_slice ho3
      rw [List.length_map]
      have HB3 := hide (bl_trans (bl_trans (bl_trans HB1.out HBL.out) hb2) hb3)
      have HSU := hide SU
      have HST := hide ST
      clear ho3 S2 SU ST HN1 HN2 HBL HB1 hb2 hb3 HWI HML
      go_wp2
      go_loopw [13] (fun i w' => ∃ n m : Nat, i = .int .i64 n ∧ n ≤ U.length ∧ Hid (w3.drewN m = w')) (fun i _ => U.length - (intOf i).toNat)
      case atStart => exact ⟨0, 0, rfl, Nat.zero_le _, hide rfl⟩
      case round =>
        obtain ⟨n, md, rfl, hn, HD⟩ := hrel
        have hd := HD.out
        have hbd : Below w3.heap.size w3 wr := by rw [← hd]; exact bl_drewN (bl_refl w3) md
        by_cases hlt : n < U.length
        · have gl : decide (n < U.length) = true := decide_eq_true hlt
          obtain ⟨x', o', c', hv', _, _, _, hcell⟩ := spat_some (spat_below HSU.out hbd) (by omega)
          injection hv' with hv' _ hvc'
          subst hv' hvc'
          obtain ⟨y1, y2⟩ := hcell n hlt
          obtain ⟨x'', o'', c'', hv'', _, _, _, hcell2⟩ := spat_some (spat_below HST.out hbd) (by rw [List.length_map]; omega)
          injection hv'' with hv'' _ hvc''
          subst hv'' hvc''
          obtain ⟨z1, z2⟩ := hcell2 n (by rw [List.length_map]; omega)
          rw [List.getElem_map] at z1 z2
          obtain ⟨p1, p2, p3, p4⟩ := wi_ends (HWU.out _ (List.getElem_mem hlt))
          clear hcell hcell2
          generalize U[n] = s at *
          obtain ⟨s1, s2⟩ := s
          change _ = some (Value.int .i64 (s1 + (kk : Int))) at z1
          change _ = some (Value.int .i64 (s2 + (kk : Int))) at z2
          have q1 : IntKind.i64.wrap (s1 + (kk : Int)) = s1 + (kk : Int) := by rw [IntKind.wrap_i64]; dsimp only at *; omega
          have q2 : IntKind.i64.wrap (s2 + (kk : Int)) = s2 + (kk : Int) := by rw [IntKind.wrap_i64]; dsimp only at *; omega
          clear p1 p2 p3 p4 hd hbd
          go_wp2
          go_quiet (fail)
          go_wp2
          refine ⟨?_, by first | (simp [intOf]; done) | (simp [intOf]; omega)⟩
          exact ⟨n + 1, md + nq, by go_num, by omega, hide (by rw [← HD.out, World.drewN_drewN])⟩
        · obtain rfl : n = U.length := by omega
          have gl : decide (U.length < U.length) = false := by simp
          have HB4 := hide (bl_trans HB3.out hbd)
          clear hd hbd HD HB3 HSU HST
          go_wp2_with fail
          refine (awake8_any _).mono ?_
          rintro e w9 ⟨rfl, hb9⟩
          go_wp2
          go_ret
          exact ⟨rfl, bl_trans HB4.out hb9⟩

set_option maxRecDepth 100000 in
theorem lifted (os : Os) (started : os.Started) (H : Type) (enc : TypeId × Value → H) :
    ReturnsInHanded {} Try.checked os 8 .any (Rows.selsAlongSpec.pre6 enc Try.prog Try.f8 Rows.selsAlongRow.domain false) (Rows.selsAlongSpec.post enc Try.prog Try.f8 false true false false) := by
  refine returnsInHanded_of_change (C := Try.checked) own started (by kernel_rfl) Try.func8
    (ChangeSpec.witness6 (enc := enc) (C := Try.checked) false ⟨#[], #[.slice none 0 0, .int .i64 0], []⟩ 8 (by kernel_rfl) (by kernel_rfl) (by kernel_rfl) (by kernel_rfl)) ?_
  intro W base args ds gs before hval0 hW hcnd _
  have hval : ∀ (j : Nat) t v, Try.f8.params[j]? = some t → args[j]? = some v → Value.okWide Try.prog W .any base t v := hval0
  have hW' := hW
  obtain ⟨p, q, hA0, hV, rfl, hfz, hnd⟩ := hW
  have hA : DataW.TrodAll enc Try.prog W 0 (fun _ => true) true Try.f8.params.toList args.toList ds p := hA0
  rw [Try.params8] at hA hval
  obtain ⟨v0, vs0, d0, ds0, p0, q0, hargs, rfl, rfl, h0, r0⟩ := trodAll_cons hA
  obtain ⟨v1, vs1, d1, ds1, p1, q1, rfl, rfl, rfl, h1, r1⟩ := trodAll_cons r0
  obtain ⟨rfl, rfl, rfl⟩ := trodAll_nil r1
  obtain rfl : args = #[v0, v1] := by cases args; simp_all
  obtain ⟨rfl, rfl⟩ := trodVars_none hV
  have k0 := h0
  have lt0 : ∀ x ∈ p0, x.block < W.heap.size := by obtain ⟨m, hm⟩ := k0; exact DataW.trod_lt m _ _ _ hm
  obtain ⟨l0, w0, b0⟩ := open_pairs (hval 0 23 v0 rfl rfl) h0
  have k1 := h1
  have lt1 : ∀ x ∈ p1, x.block < W.heap.size := by obtain ⟨m, hm⟩ := k1; exact DataW.trod_lt m _ _ _ hm
  obtain ⟨a1, rfl, hd1, hp1, w1⟩ := open_int Try.underlying3 (hval 1 3 v1 rfl rfl) h1
  clear hA0 hval0
  refine (walk v0 l0 a1 W w0 b0 w1).mono fun e W' ⟨he, bel⟩ => ?_
  subst he
  exact ⟨_, rfl, _, _, _, [], _, [], hW', trodAll_mk1 (shut_bool Try.underlying4 _), (trodAll_cons_mk (Below.trod laidOut (by kernel_rfl) (of_decide_eq_true (by kernel_rfl)) k0 bel lt0) (trodAll_cons_mk (Below.trod laidOut (by kernel_rfl) (of_decide_eq_true (by kernel_rfl)) k1 bel lt1) trodAll_mk0)), rfl, bel.frame _, fun h => by cases h⟩

theorem over : Rows.selsAlongRow.holds Try.pinned (OpenSpec.ofChange Rows.selsAlongSpec) :=
  OpenClaim.holds_of_wide 8 Try.f8 rfl rfl rfl rfl rfl rfl rfl ⟨rfl, rfl, rfl, rfl, rfl⟩ rfl rfl rfl rfl rfl (by kernel_rfl) Try.func8 (by kernel_rfl)
    (of_decide_eq_true (by kernel_rfl)) (by unfold Func.isWrapper; first | (rw [if_pos (by decide +kernel)]; kernel_rfl) | (rw [if_neg (by decide +kernel)]; exact ⟨rfl, rfl⟩))
    (fun os started H enc _ => lifted os started H enc)

theorem proved : Rows.SelsAlongSaid := over
end Go.Proofs.Ytjkjgfgblfioeaa.selsAlong
