/- What becomes of the numbers behind New is nothing to the dice; a nil one tells 0, and none are left. Conditions: none beyond the form's own. -/
import Derived.Test.YtdknaahkjhplgaaRows
import Derived.Test.YtdknaahkjhplgaaArgs
import Derived.Test.YtdknaahkjhplgaaDiceB
import Derived.Deep.RegionHeld3
import Derived.Deep.DeepFit
namespace Go.Proofs.Ytdknaahkjhplgaa.diceKeeps
open Go.Proofs.Ytdknaahkjhplgaa
open Go.ChangeShapes Go.WideShapes Go.ChangeAt Go.RowKit Go.Deep
open Go.ChangeMaps (open_string shut_string)
set_option linter.unusedVariables false

theorem own : ownKnob Try.prog.godebug = none := by kernel_rfl
theorem laidOut : laidOutB Try.prog = true := by kernel_rfl
theorem u32s_one (zs : List Int) : ∀ u ∈ zs.map (Value.int .u32), u.oneCell' = true := by
  intro u hu; simp only [List.mem_map] at hu; obtain ⟨x, _, rfl⟩ := hu; rfl
theorem own_int_cell {w : World} {base : Nat} {g c n : Nat} {ys : List Int} (h : w.ownsRow base 26 1 (.slice (some ⟨g, 0, none⟩) n c) n (ys.map (.int .u32))) (k : Nat) (hk : k < n) (hy : ys.length = n) :
    w.cell? ⟨g, k, none⟩ = some (.int .u32 (ys.getD k 0)) := by
  rw [World.ownsRow.cellAt h k (by omega), List.getElem?_map, List.getElem?_eq_getElem (by omega)]
  simp [List.getD, show k < ys.length by omega]
set_option maxRecDepth 100000 in
set_option maxHeartbeats 1000000 in
theorem walk (a0 : Option Addr) (len0 cap0 : Nat) (z0 : List Int) (w : World) (w0 : IsInts .u32 w a0 len0 cap0 z0) :
    Calls Try.prog 6 #[.slice a0 len0 cap0] w fun e w' => e = .returned (.bool true) ∧ Below w.heap.size w w' := by
  by_cases hs : len0 ≤ 60
  · have hlz : (z0.take len0).length = len0 := by have := ints_len w0; simp; omega
    have hbd : ∀ x ∈ z0.take len0, 0 ≤ x ∧ x < 4294967296 := by
      intro y hy
      rcases w0 with ⟨_, _, _, rfl⟩ | ⟨x, _, hl, hm, hz, _, hwz⟩
      · simp at hy
      · have := bounds_u32 (hwz y (List.mem_of_mem_take hy)); omega
    have hgd : ∀ k, k < len0 → (z0.take len0).getD k 0 = z0.getD k 0 := fun k hk => getD_take z0 len0 k 0 hk
    have hsrc : 0 < len0 → ∃ bx off, a0 = some ⟨bx, off, none⟩ ∧ len0 ≤ z0.length ∧ len0 ≤ cap0 ∧ cap0 ≤ maxLen ∧ ∀ i, i < z0.length → w.cell? ⟨bx, off + i, none⟩ = some (.int .u32 (z0.getD i 0)) := fun hp => ints_cell w0 hp
    obtain ⟨i0, hi0, hz0', hz1, hz2⟩ := info_parts info_u32
    have HZ := hide hlz
    have HBD := hide hbd
    have HGD := hide hgd
    have HSRC := hide hsrc
    clear hlz hbd hgd hsrc
    have hm0 := World.ownsRow_made (base := w.heap.size) (e := 26) (size := 1) w #[] 0 (Nat.le_refl _) (by simp [maxLen]) (by simp)
    have K3 := hide (u32s_one (z0.take len0))
    rcases w0 with ⟨rfl, rfl, rfl, rfl⟩ | ⟨x, rfl, hl, hm, hz, hcell, hwz⟩
    · go_enter Try.func6, Try.ntmps6
      go_wp2_with fail
      have hown1 := hm0
      have hbl0 := bl_alloc (bl_refl w) (.cells #[] 26)
      have hgm : w.heap.size < (w.alloc (.cells #[] 26)).heap.size := by simp
      refine (dnew_some _ _ _ _ ((([] : List Int)).take 0) HZ.out (by omega) HBD.out (fun j hj => by rw [addr_add, Nat.zero_add]; exact own_int_cell hown1 j hj HZ.out)).mono ?_
      rintro e w2 ⟨b, g, rfl, hb1, hg1, hb2, hg2, hd1, hbl1⟩
      have hown2 := own_below hown1 hbl1
      have hbl2 := bl_trans hbl0 hbl1
      have hcm : 0 ≤ 9223372036854775807 := (by omega)
      have hnb : w.heap.size ≠ b := by omega
      have hng : w.heap.size ≠ g := by omega
      have HN := hide (And.intro hnb hng)
      clear hnb hng hown1 hbl0 hbl1
      go_wp2
      go_loopw [5] (fun i wr => ∃ (k : Nat) (ys : List Int), k ≤ 0 ∧ i = .int .i64 k ∧ ys.length = 0 ∧ wr.ownsRow w.heap.size 26 1 (.slice (some ⟨w.heap.size, 0, none⟩) 0 0) 0 (ys.map (.int .u32)) ∧ DiceAt wr b g ((([] : List Int)).take 0) 0 ∧ Below w.heap.size w wr)
        (fun i _ => 0 - (intOf i).toNat)
      case atStart => exact ⟨0, ((([] : List Int)).take 0), Nat.zero_le _, rfl, HZ.out, hown2, hd1, hbl2⟩
      case round =>
        obtain ⟨k, ys, hk, rfl, hys, ho, hd, hbl⟩ := hrel
        by_cases hlt : k < 0
        · omega
        · clear ho hys
          go_wp2
          go_loopw [6] (fun i wr => ∃ (k : Nat) (lst : Int), k ≤ 0 ∧ i = .int .i64 k ∧ DiceAt wr b g (((([] : List Int)).take 0).drop k) lst ∧ Below w.heap.size w wr)
            (fun i _ => 0 - (intOf i).toNat)
          case atStart => exact ⟨0, 0, Nat.zero_le _, rfl, hd, hbl⟩
          case round =>
            obtain ⟨k2, lst, hk2, rfl, hd2, hbl2'⟩ := hrel
            by_cases hlt2 : k2 < 0
            · omega
            · go_wp2_with fail
              refine (nextnil_any _).mono ?_
              rintro e w3 ⟨rfl, rfl⟩
              go_wp2_with fail
              refine (leftnil_any _).mono ?_
              rintro e w3 ⟨rfl, rfl⟩
              go_wp2_with fail
              refine (awake1_any _).mono ?_
              rintro e w3 ⟨rfl, hb3⟩
              go_wp2
              go_ret
              exact ⟨rfl, bl_trans hbl2' hb3⟩
    · unfold maxLen at hm
      have K1 : Hid (((z0.take len0).map (Value.int .u32)).length = len0 * 1) := hide (by rw [List.length_map, HZ.out]; omega)
      have K2 : Hid (∀ j u, ((z0.take len0).map (Value.int .u32))[j]? = some u → (w.alloc (.cells #[] 26)).cell? (x.add j) = some u) := hide (by
        intro j u hu
        rw [List.getElem?_map] at hu
        simp only [Option.map_eq_some_iff] at hu
        obtain ⟨y, hy, rfl⟩ := hu
        have hj : j < (z0.take len0).length := (List.getElem?_eq_some_iff.1 hy).1
        have h1 := hcell j (by simp at hj; omega)
        have h2 : z0.getD j 0 = y := by rw [← HGD.out j (by rw [HZ.out] at hj; exact hj)]; simp [List.getD, hy]
        rw [h2] at h1
        rw [← h1]
        exact World.cell?_of_block (Below.heap_alloc w _ _ (World.block_lt_of_cell? w _ h1)))
      clear hcell hwz
      go_enter Try.func6, Try.ntmps6
      go_wp2_with (at_builtin; (refine wpList_append_own _ rfl _ _ 22 rfl w.heap.size 26 i0 (.int .u32 0) 1 4 Try.underlying22 hi0 hz0' hz1 hz2 rfl (by decide) _ 0 [] rfl hm0 x len0 cap0 ((z0.take len0).map (.int .u32)) rfl K1.out K2.out K3.out (by simp only [maxLen]; omega) (by omega) (by simp) ?_); intro v' w1 hown1 hg1 hnil)
      have hne : v' ≠ .slice none 0 0 := fun e => by have := (hnil.1 e).1; cases this
      have hbl0 : Below w.heap.size w w1 := (bl_alloc (bl_refl w) (.cells #[] 26)).grown hg1 (by simp) (fun k hk => by have : w.heap.size = k := Option.some.inj hk; omega)
      try simp only [Nat.zero_add, List.nil_append] at hown1
      rcases own_form hown1 with ⟨e0, _, _⟩ | ⟨gm, cm, rfl, hgm0, hgm, hlc, hcm0, _⟩
      · exact absurd e0 hne
      unfold maxLen at hcm0
      clear hg1 hnil hne
      go_wp2_with fail
      refine (dnew_some _ _ _ _ (z0.take len0) HZ.out (by omega) HBD.out (fun j hj => by rw [addr_add, Nat.zero_add]; exact own_int_cell hown1 j hj HZ.out)).mono ?_
      rintro e w2 ⟨b, g, rfl, hb1, hg1, hb2, hg2, hd1, hbl1⟩
      have hown2 := own_below hown1 hbl1
      have hbl2 := bl_trans hbl0 hbl1
      have hcm : cm ≤ 9223372036854775807 := hcm0
      have hnb : gm ≠ b := by omega
      have hng : gm ≠ g := by omega
      have HN := hide (And.intro hnb hng)
      clear hnb hng hown1 hbl0 hbl1
      go_wp2
      go_loopw [5] (fun i wr => ∃ (k : Nat) (ys : List Int), k ≤ len0 ∧ i = .int .i64 k ∧ ys.length = len0 ∧ wr.ownsRow w.heap.size 26 1 (.slice (some ⟨gm, 0, none⟩) len0 cm) len0 (ys.map (.int .u32)) ∧ DiceAt wr b g (z0.take len0) 0 ∧ Below w.heap.size w wr)
        (fun i _ => len0 - (intOf i).toNat)
      case atStart => exact ⟨0, (z0.take len0), Nat.zero_le _, rfl, HZ.out, hown2, hd1, hbl2⟩
      case round =>
        obtain ⟨k, ys, hk, rfl, hys, ho, hd, hbl⟩ := hrel
        by_cases hlt : k < len0
        · have hc := own_int_cell ho k hlt hys
          have hf : wr.frozen? ⟨gm, k, none⟩ = false := World.ownsRow.frozenAt ho k
          have HY := hide hys
          clear hys
          go_wp2
          refine ⟨?_, by simp [intOf]; omega⟩
          have ho' := fun u => World.ownsRow.stored ho k (.int .u32 u)
          have fin : ∀ u, (∃ (k' : Nat) (ys' : List Int), k' ≤ len0 ∧ Value.int .i64 ((k : Int) + 1) = .int .i64 k' ∧ ys'.length = len0 ∧ (wr.setCell ⟨gm, k, none⟩ (.int .u32 u)).ownsRow w.heap.size 26 1 (.slice (some ⟨gm, 0, none⟩) len0 cm) len0 (ys'.map (.int .u32)) ∧ DiceAt (wr.setCell ⟨gm, k, none⟩ (.int .u32 u)) b g (z0.take len0) 0 ∧ Below w.heap.size w (wr.setCell ⟨gm, k, none⟩ (.int .u32 u))) := fun u =>
            ⟨k + 1, ys.set k u, by omega, by go_num, by simp [HY.out], by rw [List.map_set]; exact (ho' u).1, hd.kept (Below.heap_setCell _ _ _ _ (by simpa using HN.out.1.symm)) (Below.heap_setCell _ _ _ _ (by simpa using HN.out.2.symm)), bl_set hbl (by show w.heap.size ≤ gm; omega) _⟩
          first
            | exact fin _
            | ((repeat apply Exists.intro); exact ⟨fin _, rfl⟩)
        · clear ho hys
          go_wp2
          go_loopw [6] (fun i wr => ∃ (k : Nat) (lst : Int), k ≤ len0 ∧ i = .int .i64 k ∧ DiceAt wr b g ((z0.take len0).drop k) lst ∧ Below w.heap.size w wr)
            (fun i _ => len0 - (intOf i).toNat)
          case atStart => exact ⟨0, 0, Nat.zero_le _, rfl, hd, hbl⟩
          case round =>
            obtain ⟨k2, lst, hk2, rfl, hd2, hbl2'⟩ := hrel
            by_cases hlt2 : k2 < len0
            · obtain ⟨bx, off, hx', hz1', hz2', hz3, hcs⟩ := HSRC.out (by omega)
              obtain rfl := Option.some.inj hx'
              have hc1 := hcs k2 (by omega)
              have hc2 := cell_later hbl2' hc1
              unfold maxLen at hz3
              clear hcs
              go_wp2_with fail
              have hbb : bx < w.heap.size := World.block_lt_of_cell? w _ hc1
              have hneb : bx ≠ b := by omega
              have hc3 : wr.drew.cell? ⟨bx, off + k2, none⟩ = some (.int .u32 (z0.getD k2 0)) := hc2
              have hd3 : DiceAt wr.drew b g ((z0.take len0).drop k2) lst := hd2.kept rfl rfl
              have HC3 := hide hc3
              clear hc3
              go_region_with (go_at_call 18; refine (next_at wr.drew b g (z0.take len0) k2 lst hd3 (by rw [HZ.out]; exact hlt2)).mono ?_; rintro e w3 ⟨rfl, hd4, hgr⟩; rw [HGD.out k2 hlt2] at hd4 ⊢; have hc4 := hgr.cell HC3.out (by simpa using hneb))
              all_goals
                have hbl4 : Below w.heap.size w w3 := bl_next (bl_drew hbl2') hgr (by omega)
                go_wp2
                refine ⟨?_, by simp [intOf]; omega⟩
                first
                  | exact ⟨k2 + 1, _, by omega, by go_num, hd4, hbl4⟩
                  | ((repeat apply Exists.intro); exact ⟨⟨k2 + 1, _, by omega, by go_num, hd4, hbl4⟩, rfl⟩)
            · go_wp2_with fail
              refine (nextnil_any _).mono ?_
              rintro e w3 ⟨rfl, rfl⟩
              go_wp2_with fail
              refine (leftnil_any _).mono ?_
              rintro e w3 ⟨rfl, rfl⟩
              go_wp2_with fail
              refine (awake1_any _).mono ?_
              rintro e w3 ⟨rfl, hb3⟩
              go_wp2
              go_ret
              exact ⟨rfl, bl_trans hbl2' hb3⟩
  · go_enter Try.func6, Try.ntmps6
    go_wp2_with fail
    refine (awake1_any _).mono ?_
    rintro e w1 ⟨rfl, hb1⟩
    go_wp2
    go_ret
    exact ⟨rfl, hb1⟩

set_option maxRecDepth 100000 in
theorem lifted (os : Os) (started : os.Started) (H : Type) (enc : TypeId × Value → H) :
    ReturnsInHanded {} Try.checked os 6 .any (Rows.diceKeepsSpec.pre6 enc Try.prog Try.f6 Rows.diceKeepsRow.domain false) (Rows.diceKeepsSpec.post enc Try.prog Try.f6 false true false false) := by
  refine returnsInHanded_of_change (C := Try.checked) own started (by kernel_rfl) Try.func6
    (ChangeSpec.witness6 (enc := enc) (C := Try.checked) false ⟨#[], #[.slice none 0 0], []⟩ 8 (by kernel_rfl) (by kernel_rfl) (by kernel_rfl) (by kernel_rfl)) ?_
  intro W base args ds gs before hval0 hW hcnd _
  have hval : ∀ (j : Nat) t v, Try.f6.params[j]? = some t → args[j]? = some v → Value.okWide Try.prog W .any base t v := hval0
  have hW' := hW
  obtain ⟨p, q, hA0, hV, rfl, hfz, hnd⟩ := hW
  have hA : DataW.TrodAll enc Try.prog W 0 (fun _ => true) true Try.f6.params.toList args.toList ds p := hA0
  rw [Try.params6] at hA hval
  obtain ⟨v0, vs0, d0, ds0, p0, q0, hargs, rfl, rfl, h0, r0⟩ := trodAll_cons hA
  obtain ⟨rfl, rfl, rfl⟩ := trodAll_nil r0
  obtain rfl : args = #[v0] := by cases args; simp_all
  obtain ⟨rfl, rfl⟩ := trodVars_none hV
  have k0 := h0
  have lt0 : ∀ x ∈ p0, x.block < W.heap.size := by obtain ⟨m, hm⟩ := k0; exact DataW.trod_lt m _ _ _ hm
  obtain ⟨a0, len0, cap0, rfl⟩ := okWide_slice Try.underlying22 (hval 0 22 v0 rfl rfl)
  obtain ⟨z0, w0⟩ : ∃ zs, IsInts .u32 W a0 len0 cap0 zs := by
    obtain ⟨fuel, hf⟩ := h0
    rcases open_ints Try.underlying22 Try.underlying26 (by kernel_rfl) hf with ⟨hcs, _⟩ | ⟨x, l, c, zs, hcs, _, hl, hm, hz, _, hcell, hwz⟩
    · simp [Value.cells] at hcs
      obtain ⟨rfl, rfl, rfl⟩ := hcs
      exact ⟨[], .inl ⟨rfl, rfl, rfl, rfl⟩⟩
    · simp [Value.cells] at hcs
      obtain ⟨rfl, rfl, rfl⟩ := hcs
      exact ⟨zs, .inr ⟨_, rfl, hl, hm, by simpa using hz, hcell, hwz⟩⟩
  clear hA0 hval0
  refine (walk a0 len0 cap0 z0 W w0).mono fun e W' ⟨he, bel⟩ => ?_
  subst he
  exact ⟨_, rfl, _, _, _, [], _, [], hW', trodAll_mk1 (shut_bool Try.underlying4 _), (trodAll_cons_mk (Below.trod laidOut (by kernel_rfl) (of_decide_eq_true (by kernel_rfl)) k0 bel lt0) trodAll_mk0), rfl, bel.frame _, fun h => by cases h⟩

theorem over : Rows.diceKeepsRow.holds Try.pinned (OpenSpec.ofChange Rows.diceKeepsSpec) :=
  OpenClaim.holds_of_wide 6 Try.f6 rfl rfl rfl rfl rfl rfl rfl ⟨rfl, rfl, rfl, rfl, rfl⟩ rfl rfl rfl rfl rfl (by kernel_rfl) Try.func6 (by kernel_rfl)
    (of_decide_eq_true (by kernel_rfl)) (by unfold Func.isWrapper; first | (rw [if_pos (by decide +kernel)]; kernel_rfl) | (rw [if_neg (by decide +kernel)]; exact ⟨rfl, rfl⟩))
    (fun os started H enc _ => lifted os started H enc)

theorem proved : Rows.DiceKeepsSaid := over
end Go.Proofs.Ytdknaahkjhplgaa.diceKeeps
