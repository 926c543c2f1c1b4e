/- Contracts: rows that are some, told by the law; the layer's awake. No condition but short texts and slices. -/
import Derived.Test.YthccikhaialhhaaRowJ
namespace Go.Proofs.Ythccikhaialhhaa
open Go.ChangeShapes Go.WideShapes Go.ChangeAt Go.RowKit
open SetM
attribute [local go_sem ↓] Go.wp_at_zero Go.wp_at_succ
attribute [local go_sem] later_cell later_frozen lt_bl le_bl
theorem unione_any (v : Value) (l U : List Rw) (w : World) (h : RwAt w v l) (hl : l.length ≤ 1000) (hsh : ∀ s ∈ l, Short s) (hU : uniF (sortS (okL l)) = U) :
    Calls Try.prog 14 #[v] w fun e w' => ∃ v', e = .returned v' ∧ Below w.heap.size w w' ∧ w'.ownsRow w.heap.size 36 2 v' U.length (flatR U) := by
  subst hU; exact union_any v l w h hl hsh
theorem runione_any (v : Value) (l U : List Rw) (w : World) (h : RwAt w v l) (hl : l.length ≤ 1000) (hsh : ∀ s ∈ l, Short s) (hU : uniF (sortS (okL l)) = U) :
    Calls Try.prog 15 #[v] w fun e w' => ∃ v', e = .returned v' ∧ Below w.heap.size w w' ∧ w'.ownsRow w.heap.size 36 2 v' U.length (flatR U) := by
  subst hU; exact runion_any v l w h hl hsh
theorem rowsb_any (v u : Value) (l k : List Rw) (r : Bool) (w : World) (h : RwAt w v l) (g : RwAt w u k) (hl : l.length ≤ 1000) (hk : k.length ≤ 1000) (hr : decide (l = k) = r) :
    Calls Try.prog 13 #[v, u] w fun e w' => e = .returned (.bool r) ∧ Below w.heap.size w w' :=
  (rows_any v u l k w h g hl hk).mono fun _ _ ⟨he, n, hw⟩ => ⟨by rw [he, hr], by rw [hw]; exact bl_drewN (bl_refl w) n⟩
theorem short_rW : ∀ s ∈ rW, Short s := by
  intro s hs
  simp only [rW, List.mem_cons, List.not_mem_nil, or_false] at hs
  rcases hs with rfl | rfl | rfl | rfl <;> exact ⟨by decide, by decide⟩
theorem has_aw : hasF [(⟨#[97]⟩, ⟨#[102]⟩)] false true ⟨#[66]⟩ = true := by
  simp only [hasF, inB, List.any_cons, List.any_nil, bl_d]; decide +kernel
set_option maxRecDepth 100000 in
set_option maxHeartbeats 2000000 in
theorem awake12_any (w : World) :
    Calls Try.prog 10 #[] w fun e w' => e = .returned (.bool true) ∧ Below w.heap.size w w' := by
  have hN := named_any 119 w
  have e1 : namR 119 = rW := rfl
  have e2 : namB 119 = true := rfl
  rw [e1, e2] at hN
  have HN := hide hN
  clear e1 e2 hN
  go_enter Try.func10, Try.ntmps10
  go_wp2_with fail
  refine HN.out.mono ?_
  rintro e w1 ⟨v, rfl, hb1, hw1⟩
  obtain ⟨aV, cV, rfl⟩ := rwat_len hw1
  have HW1 := hide hw1
  clear hw1 HN
  have h4 : rW.length = 4 := rfl
  rw [h4] at HW1 ⊢
  clear h4
  have hal := alloc_rwat w1 [(⟨#[97]⟩, ⟨#[102]⟩)] (by decide)
  have HAL := hide hal
  clear hal
  go_wp2_with fail
  refine (hass_any _ [(⟨#[97]⟩, ⟨#[102]⟩)] false true ⟨#[66]⟩ true _ HAL.out (by decide) (by decide) has_aw).mono ?_
  rintro e w2 ⟨rfl, hb2⟩
  have hb2' := bl_trans (bl_alloc (bl_refl w1) _) hb2
  have HW2 := hide (rwat_below HW1.out hb2')
  clear hb2
  go_wp2_with fail
  refine (mays_any _ rW true _ HW2.out (by decide) short_rW may_rW).mono ?_
  rintro e w3 ⟨rfl, hb3⟩
  have HW3 := hide (rwat_below HW2.out hb3)
  go_wp2_with fail
  refine (unione_any _ rW rW _ HW3.out (by decide) short_rW (union_self rW may_rW)).mono ?_
  rintro e w4 ⟨v4, rfl, hb4, ho4⟩
  obtain ⟨a4, c4, rfl⟩ := own_slice ho4
  have h4 : rW.length = 4 := rfl
  rw [h4]
  clear ho4 h4
  go_wp2
  go_ret
  exact ⟨rfl, bl_trans (bl_trans (bl_trans hb1 hb2') hb3) hb4⟩
def PInv (l : List Rw) (w : World) (v i : Value) (wr : World) : Prop :=
  ∃ (k n : Nat), i = .int .i64 k ∧ k ≤ l.length ∧ n ≤ k ∧ Hid ((okL (l.take k)).length = n) ∧ wr.ownsRow w.heap.size 36 2 v n (flatR (okL (l.take k))) ∧ Below w.heap.size w wr
set_option maxRecDepth 100000 in
set_option maxHeartbeats 8000000 in
theorem proper_any (v : Value) (l : List Rw) (w : World) (h : RwAt w v l) (hl : l.length ≤ 1000) (hsh : ∀ s ∈ l, Short s) :
    Calls Try.prog 20 #[v] w fun e w' => ∃ v', e = .returned v' ∧ Below w.heap.size w w' ∧ w'.ownsRow w.heap.size 36 2 v' (okL l).length (flatR (okL l)) := by
  obtain ⟨i0, hi0, hz0', hz1, hz2⟩ := info_parts info_rw
  have HW := hide h
  have HSH := hide hsh
  obtain ⟨aA, cA, rfl⟩ := rwat_len h
  obtain ⟨U, hU⟩ : ∃ U, okL l = U := ⟨_, rfl⟩
  rw [hU]
  have HUU := hide hU
  clear h hsh hU
  go_enter Try.func20, Try.ntmps20
  go_wp2
  go_loopw [3, 4] (fun v i wr => PInv l w v i wr) (fun _ i _ => l.length - (intOf i).toNat)
  case atStart => exact ⟨0, 0, rfl, Nat.zero_le _, Nat.le_refl _, hide (by simp [okL]), ⟨rfl, .inl ⟨rfl, rfl⟩⟩, bl_refl w⟩
  case round =>
    obtain ⟨j, n, rfl, hj, hnj, HN, hv, hbl⟩ := hrel
    by_cases hlt : j < l.length
    · obtain ⟨b1, o1, c1, hv1, hc1, hm1, hlb1, hcell1⟩ := rwat_some (rwat_below HW.out hbl) (by omega)
      injection hv1 with hv1 _ hv1c
      subst hv1 hv1c
      unfold maxLen at hm1
      obtain ⟨x1, x2⟩ := hcell1 j hlt
      have hus := okL_next l j hlt
      have hss := HSH.out l[j] (List.getElem_mem hlt)
      clear hcell1
      obtain ⟨s, hs⟩ : ∃ s, l[j] = s := ⟨_, rfl⟩
      rw [hs] at hus x1 x2 hss
      obtain ⟨acc, hacc⟩ : ∃ acc, okL (l.take j) = acc := ⟨_, rfl⟩
      rw [hacc] at hus hv HN
      have fin0 : rowB s = false → ∀ (v' : Value) W, W.ownsRow w.heap.size 36 2 v' n (flatR acc) → Below w.heap.size w W → PInv l w v' (.int .i64 ((j : Int) + 1)) W := fun hb v' W ho hbb =>
        ⟨j + 1, n, by go_num, by omega, by omega, hide (by rw [hus, hb]; simpa using HN.out), by rw [hus, hb]; simpa using ho, hbb⟩
      have fin1 : rowB s = true → ∀ (v' : Value) W, W.ownsRow w.heap.size 36 2 v' (n + 1) (flatR acc ++ [.string s.1, .string s.2]) → Below w.heap.size w W → PInv l w v' (.int .i64 ((j : Int) + 1)) W := fun hb v' W ho hbb =>
        ⟨j + 1, n + 1, by go_num, by omega, by omega, hide (by rw [hus, hb]; simp [HN.out]), by rw [hus, hb]; simpa [flatR_app, flatR, encR] using ho, hbb⟩
      have FIN0 := hide fin0
      have FIN1 := hide fin1
      clear fin0 fin1 hus hs hacc HN
      have hs1 : s.1.size ≤ 100000 := hss.1
      have hs2 : s.2.size ≤ 100000 := hss.2
      obtain ⟨p1, hp1⟩ : ∃ p, properB s.1.data.toList = p := ⟨_, rfl⟩
      obtain ⟨p2, hp2⟩ : ∃ p, properB s.2.data.toList = p := ⟨_, rfl⟩
      obtain ⟨p3, hp3⟩ : ∃ p, bl s.2 s.1 = p := ⟨_, rfl⟩
      have hrow : rowB s = (p1 && p2 && !p3) := by rw [← hp1, ← hp2, ← hp3]; rfl
      have HROW := hide hrow
      have HP1 := hide hp1
      have HP2 := hide hp2
      have HV := hide hv
      obtain ⟨aV, cV, rfl⟩ := own_slice hv
      have hbw : w.heap.size ≤ wr.heap.size := hbl.size
      clear hp1 hp2 hrow hss hv
      by_cases hbad : (p1 && p2 && !p3) = false
      · have HF := hide (FIN0.out (HROW.out.trans hbad))
        clear FIN0 FIN1 HROW
        cases p1
        · clear hbad hp3
          go_wp2
          refine wp_region_later (by kernel_rfl) (by kernel_rfl) ?_
          repeat (go_big_quiet_step (first | (go_at_call 26; exact later_call (rproper_any _ _ _ (by first | exact hs1 | exact hs2) (by first | exact HP1.out | exact HP2.out))) | exact rfl))
          refine wpQuiet_nil ?_
          rintro w9 ⟨⟨_, hb9⟩, rfl⟩
          have HV9 := hide (own_below HV.out hb9)
          have hbl9 := bl_trans hbl hb9
          clear HV
          go_wp2
          refine ⟨?_, by first | (simp [intOf]; done) | (simp [intOf]; omega)⟩
          exact HF.out _ _ HV9.out hbl9
        · cases p2
          · clear hbad hp3
            go_wp2
            refine wp_region_later (by kernel_rfl) (by kernel_rfl) ?_
            repeat (go_big_quiet_step (first | (go_at_call 26; exact later_call (rproper_any _ _ _ (by first | exact hs1 | exact hs2) (by first | exact HP1.out | exact HP2.out))) | exact rfl))
            refine wpQuiet_nil ?_
            rintro w9 ⟨⟨_, hb9⟩, rfl⟩
            have HV9 := hide (own_below HV.out hb9)
            have hbl9 := bl_trans hbl hb9
            clear HV
            go_wp2
            refine ⟨?_, by first | (simp [intOf]; done) | (simp [intOf]; omega)⟩
            exact HF.out _ _ HV9.out hbl9
          · cases p3
            · cases hbad
            · clear hbad
              go_wp2
              refine wp_region_later (by kernel_rfl) (by kernel_rfl) ?_
              repeat (go_big_quiet_step (first | (go_at_call 26; exact later_call (rproper_any _ _ _ (by first | exact hs1 | exact hs2) (by first | exact HP1.out | exact HP2.out))) | exact rfl))
              refine wpQuiet_nil ?_
              rintro w9 ⟨⟨_, hb9⟩, rfl⟩
              have HV9 := hide (own_below HV.out hb9)
              have hbl9 := bl_trans hbl hb9
              clear HV
              go_wp2
              refine ⟨?_, by first | (simp [intOf]; done) | (simp [intOf]; omega)⟩
              exact HF.out _ _ HV9.out hbl9
      · obtain ⟨rfl, rfl, rfl⟩ : p1 = true ∧ p2 = true ∧ p3 = false := by
          cases p1 <;> cases p2 <;> cases p3 <;> simp at hbad ⊢
        have HF := hide (FIN1.out (HROW.out.trans rfl))
        clear hbad FIN0 FIN1 HROW
        go_wp2
        refine wp_region_later (by kernel_rfl) (by kernel_rfl) ?_
        repeat (go_big_quiet_step (first | (go_at_call 26; exact later_call (rproper_any _ _ _ (by first | exact hs1 | exact hs2) (by first | exact HP1.out | exact HP2.out))) | exact rfl))
        refine wpQuiet_nil ?_
        rintro w9 ⟨⟨_, hb9⟩, rfl⟩
        have z1 := cell_later hb9 x1
        have z2 := cell_later hb9 x2
        have hbl9 := bl_trans hbl hb9
        have hbs := hb9.size
        have HV9 := hide (own_below HV.out hb9)
        clear x1 x2 HV
        go_wp2_with (at_builtin; (refine wpList_push w9 rfl _ _ 22 rfl w.heap.size 36 i0 (.agg #[.string ⟨#[]⟩, .string ⟨#[]⟩]) 2 32 Try.underlying22 hi0 hz0' hz1 hz2 rfl (by decide) (.slice aV n cV) n (flatR acc) rfl HV9.out 1 #[.string s.1, .string s.2] rfl rfl (by simp [Value.oneCell']) (by omega) (by decide) (by omega) ?_); intro v' w4 hv4 hg4 hat)
        have hbl4 : Below w.heap.size w w4 := bl_own hbl9 HV9.out hg4 (Nat.le_refl _)
        refine ⟨?_, by first | (simp [intOf]; done) | (simp [intOf]; omega)⟩
        exact HF.out _ _ hv4 hbl4
    · obtain rfl : j = l.length := by omega
      have hN := HN.out
      rw [List.take_length, HUU.out] at hv hN
      subst hN
      have HV := hide hv
      clear hv HN hnj hlt HUU
      go_wp2
      go_ret
      exact ⟨_, rfl, hbl, HV.out⟩
end Go.Proofs.Ythccikhaialhhaa
