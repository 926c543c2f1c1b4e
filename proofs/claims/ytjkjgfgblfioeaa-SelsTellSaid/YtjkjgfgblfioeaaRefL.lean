/- Contracts of chapter 8's reference: a selection's span, selections sorted and put together. Condition: short slices. -/
import Derived.Test.YtjkjgfgblfioeaaSelE
import Derived.Test.YtjkjgfgblfioeaaApp
import Derived.Deep.RegionHeld3
import Derived.BigQuiet
import Derived.RegionTactic
import Derived.Laws.ResultCell
import Derived.Deep.CutBlock
namespace Go.Proofs.Ytjkjgfgblfioeaa
open Go.ChangeShapes Go.WideShapes Go.ChangeAt Go.RowKit
open SpanM SelM
attribute [local go_sem ↓] Go.wp_at_zero Go.wp_at_succ
attribute [local go_sem] later_cell later_frozen fld_sp0 fld_sp1
set_option maxRecDepth 100000
set_option linter.unusedVariables false
theorem vres_cell1 {fn : Func} {p : Tmp} {ty : TypeId} (h : fn.results = #[.cell p ty]) (tmps : Array Value) (P : Program) (w : World) :
    (results fn tmps).run P w = ((asAddr (tmps.getD p undef)).run P w).andThen fun a w₁ => (loadVar ty a).run P w₁ := by
  simp only [results, h]
  simp [Sem.run_bind, Result.andThen]
set_option maxHeartbeats 2000000 in
theorem rspan8 (a1 a2 : Int) (k1 k2 : Int) (h1 : min a1 a2 = k1) (h2 : max a1 a2 = k2) (w : World) : Calls Try.prog 22 #[.agg #[.int .i64 a1, .int .i64 a2]] w fun e w' => e = .returned (.agg #[.int .i64 k1, .int .i64 k2]) ∧ Below w.heap.size w w' := by
  have hB := fun k1 k2 : Int => bl_alloc (bl_alloc (bl_refl w) (.cells #[.int .i64 a1, .int .i64 a2] 38)) (.cells #[.int .i64 k1, .int .i64 k2] 35)
  subst h1 h2
  rcases Int.lt_trichotomy a1 a2 with h | h | h
  · have e1 : min a1 a2 = a1 := by omega
    have e2 : max a1 a2 = a2 := by omega
    rw [e1, e2]
    have g1 : a1 ≤ a2 := by omega
    have g2 : ¬ a2 < a1 := by omega
    have g3 : ¬ a2 ≤ a1 := by omega
    go_enter Try.func22, Try.ntmps22
    go_wp2
    refine bodyPost_ret (v := .agg #[.int .i64 a1, .int .i64 a2]) ?_ rfl ⟨rfl, hB _ _⟩
    rw [vres_cell1 rfl]
    go_simp
  · subst h
    have e1 : min a1 a1 = a1 := by omega
    have e2 : max a1 a1 = a1 := by omega
    rw [e1, e2]
    have g2 : ¬ a1 < a1 := by omega
    go_enter Try.func22, Try.ntmps22
    go_wp2
    refine bodyPost_ret (v := .agg #[.int .i64 a1, .int .i64 a1]) ?_ rfl ⟨rfl, hB _ _⟩
    rw [vres_cell1 rfl]
    go_simp
  · have e1 : min a1 a2 = a2 := by omega
    have e2 : max a1 a2 = a1 := by omega
    rw [e1, e2]
    have g1 : a2 ≤ a1 := by omega
    have g2 : ¬ a1 < a2 := by omega
    have g3 : ¬ a1 ≤ a2 := by omega
    go_enter Try.func22, Try.ntmps22
    go_wp2
    refine bodyPost_ret (v := .agg #[.int .i64 a2, .int .i64 a1]) ?_ rfl ⟨rfl, hB _ _⟩
    rw [vres_cell1 rfl]
    go_simp
/-- A row that is built, behind ws. -/
theorem rspan_b (a1 a2 : Int) (k : Sp) (hk : ky (a1, a2) = k) (w : World) : Calls Try.prog 22 #[.agg #[.int .i64 a1, .int .i64 a2]] w fun e w' => e = .returned (.agg #[.int .i64 k.1, .int .i64 k.2]) ∧ Below w.heap.size w w' := by
  subst hk; exact rspan8 a1 a2 _ _ rfl rfl w
def ofL (s : Sp) (b : Bool) : Sp := if b then (s.2, s.1) else s
set_option maxHeartbeats 1000000 in
theorem rof_b (s r : Sp) (b : Bool) (hr : ofL s b = r) (w : World) : Calls Try.prog 34 #[.agg #[.int .i64 s.1, .int .i64 s.2], .bool b] w fun e w' => e = .returned (.agg #[.int .i64 r.1, .int .i64 r.2]) ∧ Below w.heap.size w w' := by
  subst hr
  have hB := fun k1 k2 : Int => bl_alloc (bl_alloc (bl_refl w) (.cells #[.int .i64 s.1, .int .i64 s.2] 35)) (.cells #[.int .i64 k1, .int .i64 k2] 38)
  cases b
  · go_enter Try.func34, Try.ntmps34
    go_wp2
    refine bodyPost_ret (v := .agg #[.int .i64 s.1, .int .i64 s.2]) ?_ rfl ⟨rfl, hB _ _⟩
    rw [vres_cell1 rfl]
    go_simp
  · go_enter Try.func34, Try.ntmps34
    go_wp2
    refine bodyPost_ret (v := .agg #[.int .i64 s.2, .int .i64 s.1]) ?_ rfl ⟨rfl, hB _ _⟩
    rw [vres_cell1 rfl]
    go_simp
theorem rless_b (a b : Sp) (r : Bool) (h : less a b = r) (w : World) : Calls Try.prog 32 #[.agg #[.int .i64 a.1, .int .i64 a.2], .agg #[.int .i64 b.1, .int .i64 b.2]] w fun e w' => e = .returned (.bool r) ∧ Below w.heap.size w w' := by
  subst h; exact less_any a b w
theorem rtouch_b (a b : Sp) (r : Bool) (h : touch a b = r) (w : World) : Calls Try.prog 33 #[.agg #[.int .i64 a.1, .int .i64 a.2], .agg #[.int .i64 b.1, .int .i64 b.2]] w fun e w' => e = .returned (.bool r) ∧ Below w.heap.size w w' := by
  subst h; exact rtouch_any a b w
theorem posB_on (s : Sp) (O : List Sp) (j : Nat) (h : j < O.length) (hl : lessL s O[j] = true) : posB s O (j + 1) = posB s O j := by
  rw [posB, getElem!_pos O j h, if_pos hl]
theorem posB_off (s : Sp) (O : List Sp) (j : Nat) (h : j < O.length) (hl : lessL s O[j] = false) : posB s O (j + 1) = j + 1 := by
  rw [posB, getElem!_pos O j h, if_neg (by rw [hl]; simp)]
theorem flat_dropL (l : List Sp) (k : Nat) : (flat l).drop (k * 2) = flat (l.drop k) := by
  have h1 := flat_app (l.take k) (l.drop k)
  rw [List.take_append_drop] at h1
  have h2 := flat_take' l k
  by_cases hk : k ≤ l.length
  · rw [h1, List.drop_left' (by rw [flat_len, List.length_take]; omega)]
  · rw [List.drop_of_length_le (by rw [flat_len]; omega), List.drop_of_length_le (by omega)]; rfl
theorem sortL_take (l : List Sp) (k : Nat) (h : k < l.length) : sortL (l.take (k + 1)) = insB l[k] (sortL (l.take k)) := by
  rw [List.take_succ_eq_append_getElem h, sortL_snoc]
def RInvL (l : List Sp) (w : World) (v i : Value) (wr : World) : Prop :=
  ∃ (k : Nat) (O : List Sp), i = .int .i64 k ∧ k ≤ l.length ∧ Hid (sortL (l.take k) = O) ∧ Hid (O.length = k) ∧ wr.ownsRow w.heap.size 38 2 v k (flat O) ∧ Below w.heap.size w wr
def RMInv (S : List Sp) (w1 : World) (v i : Value) (wr : World) : Prop :=
  ∃ (k m : Nat) (acc : List Sp), i = .int .i64 k ∧ k ≤ S.length ∧ Hid (mrgF (S.take k) = acc) ∧ m ≤ k ∧ Hid (acc.length = m) ∧ wr.ownsRow w1.heap.size 38 2 v m (flat acc) ∧ Below w1.heap.size w1 wr
def MergePost (w : World) (U : List Sp) (e : Ending) (w' : World) : Prop := ∃ v', e = .returned v' ∧ Below w.heap.size w w' ∧ w'.ownsRow w.heap.size 38 2 v' U.length (flat U)
set_option maxHeartbeats 16000000 in
theorem rmerge_any (v : Value) (l U : List Sp) (w : World) (h : SpAt w v l) (hl : l.length ≤ 1000) (hU : mrgF (sortL l) = U) :
    Calls Try.prog 23 #[v] w (MergePost w U) := by
  obtain ⟨i0, hi0, hz0', hz1, hz2⟩ := info_parts info_sl
  obtain ⟨aA, cA, rfl⟩ := spat_len h
  have W0 := hide h
  have HUU := hide hU
  clear h hU
  go_enter Try.func23, Try.ntmps23
  go_wp2
  go_loopw [3, 4] (fun v i wr => RInvL l w v i wr) (fun _ i _ => l.length - (intOf i).toNat)
  case atStart => exact ⟨0, [], rfl, Nat.zero_le _, hide rfl, hide rfl, ⟨rfl, .inl ⟨rfl, rfl⟩⟩, bl_refl w⟩
  case round =>
    obtain ⟨k, O, rfl, hk, HP, HOL, hv, hbl⟩ := hrel
    by_cases hlt : k < l.length
    · have HA := hide (spat_below W0.out hbl)
      obtain ⟨b1, o1, c1, hv1, hc1, hm1, hlb1, hcell1⟩ := spat_some HA.out (by omega)
      injection hv1 with hv1 _ hv1c
      subst hv1 hv1c
      unfold maxLen at hm1
      obtain ⟨x1, x2⟩ := hcell1 k hlt
      clear hcell1
      obtain ⟨s, hs⟩ : ∃ s, l[k] = s := ⟨_, rfl⟩
      rw [hs] at x1 x2
      have hsn := sortL_take l k hlt
      rw [hs, HP.out] at hsn
      have fin1 : ∀ (W : World) (v' : Value) (kk : Nat), posB s O O.length = kk → W.ownsRow w.heap.size 38 2 v' (k + 1) (flat (O.take kk ++ [s] ++ O.drop kk)) → Below w.heap.size w W → RInvL l w v' (.int .i64 ((k : Int) + 1)) W := fun W v' kk hd ho hbb =>
        ⟨k + 1, O.take kk ++ [s] ++ O.drop kk, by go_num, by omega, hide (by
          rw [hsn]; unfold insB; rw [hd, List.append_assoc]; rfl), hide (by have := HOL.out; simp; have := posB_le s O O.length; omega), ho, hbb⟩
      have HF1 := hide fin1
      clear fin1 hs HP hsn
      have hbw : w.heap.size ≤ wr.heap.size := hbl.size
      obtain ⟨aO, cO, rfl⟩ := own_slice hv
      have HV := hide hv
      clear hv
      go_wp2
      obtain ⟨wo, rfl⟩ : ∃ wo : World, wo = wr := ⟨_, rfl⟩
      go_loopw [5] (fun i wr => ∃ kk : Nat, i = .int .i64 kk ∧ kk ≤ k ∧ Hid (posB s O O.length = posB s O kk) ∧ Below wo.heap.size wo wr) (fun i _ => (intOf i).toNat)
      case atStart => exact ⟨k, rfl, Nat.le_refl _, hide (by rw [HOL.out]), bl_refl wo⟩
      case round =>
        obtain ⟨kk, rfl, hkk, HD, hbi⟩ := hrel
        have z1 := cell_later hbi x1
        have z2 := cell_later hbi x2
        rcases Nat.eq_zero_or_pos kk with hk0 | hk0
        · subst hk0
          have HF2 := hide (fun W v' => HF1.out W v' 0 (by rw [HD.out]; rfl))
          clear HD HF1 x1 x2
          go_wp2
          go_quiet (fail)
          go_wp2
          have f1 : (wr.drewN nq).cell? ⟨b1, o1 + k * 2, none⟩ = some (.int .i64 s.1) := by first | assumption | go_simp
          have f2 : (wr.drewN nq).cell? ⟨b1, o1 + k * 2 + 1, none⟩ = some (.int .i64 s.2) := by first | assumption | go_simp
          have HVi := hide (own_below HV.out (bl_drewN hbi nq))
          have bli : Below w.heap.size w (wr.drewN nq) := bl_trans hbl (bl_drewN hbi nq)
          generalize wr.drewN nq = wi at *
          have hlt1 := World.block_lt_of_cell? wi _ f1
          have hncO : k ≤ cO := by
            rcases own_form HVi.out with ⟨h0, h1, _⟩ | ⟨g', c', hv', _, _, hnc, _⟩
            · omega
            · cases hv'; exact hnc
          generalize hK : ((0 : Nat) : Int) = K at *
          have hslo := fun (W : World) => run_slice_to (P := Try.prog) 22 38 i0 Try.underlying22 hi0 aO k cO (0) K hK (by omega) W
          have hshi := fun (W : World) => run_slice_from (P := Try.prog) 22 38 i0 Try.underlying22 hi0 aO k cO (0) K hK (by omega) W
          rw [hz1] at hshi
          have SLO := hide (own_front' (k := 0) HVi.out (by omega))
          have SHI := hide (own_from (k := 0) HVi.out (by omega))
          generalize (if cO = 0 then aO else (aO).map (·.add ((0) * 2))) = a2 at *
          have HONE1 := hide (show ∀ u ∈ (flat O).take ((0) * 2), u.oneCell' = true from fun u hu => flat_one O u (List.mem_of_mem_take hu))
          have HONE2 := hide (show ∀ u ∈ (flat O).drop ((0) * 2), u.oneCell' = true from fun u hu => flat_one O u (List.mem_of_mem_drop hu))
          have FIN := hide (show ∀ (W : World) (v' : Value), W.ownsRow wi.heap.size 38 2 v' (0 + (0) + 1 + (k - (0))) ([] ++ (flat O).take ((0) * 2) ++ [.int .i64 s.1, .int .i64 s.2] ++ (flat O).drop ((0) * 2)) → Below wi.heap.size wi W → RInvL l w v' (.int .i64 ((k : Int) + 1)) W from fun W v' ho hb => by
            refine HF2.out W v' ?_ (bl_trans bli hb)
            have e1 : flat (O.take (0) ++ [s] ++ O.drop (0)) = [] ++ (flat O).take ((0) * 2) ++ [.int .i64 s.1, .int .i64 s.2] ++ (flat O).drop ((0) * 2) := by
              rw [flat_app, flat_app, flat_take', flat_dropL]; rfl
            rw [e1, show k + 1 = 0 + (0) + 1 + (k - (0)) by omega]
            exact own_base ho bli.size)
          have hn1000 : k ≤ 1000 := by omega
          have hBw : w.heap.size ≤ wi.heap.size := bli.size
          clear HF2 HVi hncO
          have HKEEP := hide (show ∀ W, Below wi.heap.size wi W → (fun w' => Below wi.heap.size wi w' ∧ w'.cell? ⟨b1, o1 + k * 2, none⟩ = some (.int .i64 s.1) ∧ w'.cell? ⟨b1, o1 + k * 2 + 1, none⟩ = some (.int .i64 s.2)) W from fun W h => ⟨h, cell_later h f1, cell_later h f2⟩)
          go_region_held3 (fun w' => Below wi.heap.size wi w' ∧ w'.cell? ⟨b1, o1 + k * 2, none⟩ = some (.int .i64 s.1) ∧ w'.cell? ⟨b1, o1 + k * 2 + 1, none⟩ = some (.int .i64 s.2))
            ((try go_split_ands
              refine HKEEP.out _ ?_
              repeat (first | assumption | exact bl_refl _ | refine bl_drew ?_ | refine bl_alloc ?_ _)))
            (first
              | (go_split_ands; refine step_src _ (by rfl) (.tmp 37) (.tmp 40) 22 (by rfl) wi.heap.size 38 i0 (.agg #[.int .i64 0, .int .i64 0]) 2 16 Try.underlying22 hi0 hz0' hz1 hz2 rfl (by decide) (.slice (some ⟨_, 0, none⟩) 0 0) 0 [] (by rfl) (own_at (by (try refine heap_drew ?_); first | exact heap_new (by simp) | exact heap_old (heap_new (by simp))) (by first | (simp; done) | (simp; omega))) aO (0) cO ((flat O).take ((0) * 2)) (by rfl) (src_below SLO.out (by assumption)) HONE1.out (by omega) (by decide) (by first | (simp; done) | (simp; omega)) ?_; intro v8 w8 hv8 hg8; have B8 := bl_grown (a := wi) (by assumption) hg8 (fun k hk => by cases hk; first | (simp; done) | (simp; omega)))
              | (go_split_ands; refine step_src _ (by rfl) (.tmp 47) (.tmp 50) 22 (by rfl) wi.heap.size 38 i0 (.agg #[.int .i64 0, .int .i64 0]) 2 16 Try.underlying22 hi0 hz0' hz1 hz2 rfl (by decide) v9 (0 + (0) + 1) ([] ++ (flat O).take ((0) * 2) ++ [.int .i64 s.1, .int .i64 s.2]) (by rfl) hv9 a2 (k - (0)) (cO - (0)) ((flat O).drop ((0) * 2)) (by rfl) (src_below SHI.out (by assumption)) HONE2.out (by omega) (by decide) (by have := B9.size; omega) ?_; intro va wa hva hga; have Ba := bl_grown (a := wi) (by assumption) hga (fun k hk => (hv9.lt k hk).1))
              | (go_split_ands; refine step_src _ (by rfl) (.tmp 41) (.tmp 46) 22 (by rfl) wi.heap.size 38 i0 (.agg #[.int .i64 0, .int .i64 0]) 2 16 Try.underlying22 hi0 hz0' hz1 hz2 rfl (by decide) v8 (0 + (0)) ([] ++ (flat O).take ((0) * 2)) (by rfl) (by first | exact hv8 | exact own_below hv8 (bl_drew (bl_alloc (bl_refl _) _)) | exact own_below hv8 (bl_alloc (bl_refl _) _)) (some ⟨_, 0, none⟩) 1 1 [.int .i64 s.1, .int .i64 s.2] (by rfl) (by first | exact src_block (cs := #[.int .i64 s.1, .int .i64 s.2]) (by (try refine heap_drew ?_); first | exact heap_new (by simp) | exact heap_old (heap_new (by simp))) rfl | exact src_block (cs := #[.int .i64 s.1, .int .i64 s.2]) (heap_kept hg8 (by (try refine heap_drew ?_); first | exact heap_new (by simp) | exact heap_old (heap_new (by simp))) (by simp [Value.ownBlock])) rfl) (by simp [Value.oneCell']) (by omega) (by decide) (by have := B8.size; simp; omega) ?_; intro v9 w9 hv9 hg9; have B9 := bl_grown (a := wi) (by assumption) hg9 (fun k hk => (hv8.lt k hk).1))
              | fail)
          all_goals
            clear hv8 hv9 hg8 hg9 hga B8 B9 hslo hshi
            go_wp2
            refine ⟨?_, by first | (simp [intOf]; done) | (simp [intOf]; omega)⟩
            exact FIN.out _ _ hva Ba
        · obtain ⟨j, rfl⟩ : ∃ j, kk = j + 1 := ⟨kk - 1, by omega⟩
          have hjO : j < O.length := by have := HOL.out; omega
          rcases own_form HV.out with ⟨h0, h1, _⟩ | ⟨g, cg, hvv, hg1, hg2, hg3, hg4, _⟩
          · omega
          injection hvv with hq1 _ hq2
          subst hq1 hq2
          unfold maxLen at hg4
          have hfa := flat_at O j hjO
          have hvi := own_below HV.out hbi
          have y1 : wr.cell? ⟨g, j * 2, none⟩ = some (.int .i64 O[j].1) := by rw [World.ownsRow.cellAt hvi (j * 2) (by omega)]; exact hfa.1
          have y2 : wr.cell? ⟨g, j * 2 + 1, none⟩ = some (.int .i64 O[j].2) := by rw [World.ownsRow.cellAt hvi (j * 2 + 1) (by omega)]; exact hfa.2
          have hlb2 : b1 < wr.heap.size := World.block_lt_of_cell? wr _ z1
          have hlg2 : g < wr.heap.size := World.block_lt_of_cell? wr _ y1
          have hj0 : decide ((0 : Int) < (j : Int) + 1) = true := by first | (simp; done) | (simp; omega)
          obtain ⟨r, hr⟩ : ∃ r, lessL s O[j] = r := ⟨_, rfl⟩
          have hdn : r = true → posB s O O.length = posB s O j := fun hh => by rw [HD.out]; exact posB_on s O j hjO (by rw [hr, hh])
          have htl : r = false → posB s O O.length = j + 1 := fun hh => by rw [HD.out]; exact posB_off s O j hjO (by rw [hr, hh])
          have HR := hide hr
          have HDN := hide hdn
          have HTL := hide htl
          clear hfa hvi hdn htl hr HD x1 x2
          obtain ⟨t, ht⟩ : ∃ t, O[j] = t := ⟨_, rfl⟩
          rw [ht] at y1 y2 HR
          clear ht
          obtain ⟨ks, hks⟩ : ∃ q, ky (s.1, s.2) = q := ⟨_, rfl⟩
          obtain ⟨kt, hkt⟩ : ∃ q, ky (t.1, t.2) = q := ⟨_, rfl⟩
          have hr2 : less ks kt = r := by rw [← hks, ← hkt]; exact HR.out
          have HA := hide (fun W => rspan_b s.1 s.2 ks hks W)
          have HB := hide (fun W => rspan_b t.1 t.2 kt hkt W)
          have HC := hide (fun W => rless_b ks kt r hr2 W)
          clear hks hkt hr2 HR
          go_wp2
          refine wp_region_later (by kernel_rfl) (by kernel_rfl) ?_
          repeat (go_big_quiet_step (first
            | (go_at_call_of 22 (Value.agg #[Value.int IntKind.i64 s.1, Value.int IntKind.i64 s.2]); exact later_call (HA.out _))
            | (go_at_call_of 22 (Value.agg #[Value.int IntKind.i64 t.1, Value.int IntKind.i64 t.2]); exact later_call (HB.out _))
            | (go_at_call 32; exact later_call (HC.out _))
            | exact rfl))
          refine wpQuiet_nil ?_
          rintro w9 ⟨⟨_, hb9⟩, rfl⟩
          have hbi9 := bl_trans hbi hb9
          have u1 := cell_later hb9 z1
          have u2 := cell_later hb9 z2
          clear z1 z2 y1 y2
          cases r
          · have HF2 := hide (fun W v' => HF1.out W v' (j + 1) (HTL.out rfl))
            clear HF1 HTL HDN
            go_wp2
            have f1 : (w9).cell? ⟨b1, o1 + k * 2, none⟩ = some (.int .i64 s.1) := by first | assumption | go_simp
            have f2 : (w9).cell? ⟨b1, o1 + k * 2 + 1, none⟩ = some (.int .i64 s.2) := by first | assumption | go_simp
            have HVi := hide (own_below HV.out (hbi9))
            have bli : Below w.heap.size w (w9) := bl_trans hbl (hbi9)
            generalize w9 = wi at *
            have hlt1 := World.block_lt_of_cell? wi _ f1
            have hncO : k ≤ cO := by
              rcases own_form HVi.out with ⟨h0, h1, _⟩ | ⟨g', c', hv', _, _, hnc, _⟩
              · omega
              · cases hv'; exact hnc
            generalize hK0 : ((j : Int) + 1) = K at *
            have hK : ((j + 1 : Nat) : Int) = K := by omega
            have hslo := fun (W : World) => run_slice_to (P := Try.prog) 22 38 i0 Try.underlying22 hi0 (some (⟨g, 0, none⟩ : Addr)) k cO (j + 1) K hK (by omega) W
            have hshi := fun (W : World) => run_slice_from (P := Try.prog) 22 38 i0 Try.underlying22 hi0 (some (⟨g, 0, none⟩ : Addr)) k cO (j + 1) K hK (by omega) W
            rw [hz1] at hshi
            have SLO := hide (own_front' (k := j + 1) HVi.out (by omega))
            have SHI := hide (own_from (k := j + 1) HVi.out (by omega))
            generalize (if cO = j + 1 then (some (⟨g, 0, none⟩ : Addr)) else ((some (⟨g, 0, none⟩ : Addr))).map (·.add ((j + 1) * 2))) = a2 at *
            have HONE1 := hide (show ∀ u ∈ (flat O).take ((j + 1) * 2), u.oneCell' = true from fun u hu => flat_one O u (List.mem_of_mem_take hu))
            have HONE2 := hide (show ∀ u ∈ (flat O).drop ((j + 1) * 2), u.oneCell' = true from fun u hu => flat_one O u (List.mem_of_mem_drop hu))
            have FIN := hide (show ∀ (W : World) (v' : Value), W.ownsRow wi.heap.size 38 2 v' (0 + (j + 1) + 1 + (k - (j + 1))) ([] ++ (flat O).take ((j + 1) * 2) ++ [.int .i64 s.1, .int .i64 s.2] ++ (flat O).drop ((j + 1) * 2)) → Below wi.heap.size wi W → RInvL l w v' (.int .i64 ((k : Int) + 1)) W from fun W v' ho hb => by
              refine HF2.out W v' ?_ (bl_trans bli hb)
              have e1 : flat (O.take (j + 1) ++ [s] ++ O.drop (j + 1)) = [] ++ (flat O).take ((j + 1) * 2) ++ [.int .i64 s.1, .int .i64 s.2] ++ (flat O).drop ((j + 1) * 2) := by
                rw [flat_app, flat_app, flat_take', flat_dropL]; rfl
              rw [e1, show k + 1 = 0 + (j + 1) + 1 + (k - (j + 1)) by omega]
              exact own_base ho bli.size)
            have hn1000 : k ≤ 1000 := by omega
            have hBw : w.heap.size ≤ wi.heap.size := bli.size
            clear HF2 HVi hncO
            have HKEEP := hide (show ∀ W, Below wi.heap.size wi W → (fun w' => Below wi.heap.size wi w' ∧ w'.cell? ⟨b1, o1 + k * 2, none⟩ = some (.int .i64 s.1) ∧ w'.cell? ⟨b1, o1 + k * 2 + 1, none⟩ = some (.int .i64 s.2)) W from fun W h => ⟨h, cell_later h f1, cell_later h f2⟩)
            go_region_held3 (fun w' => Below wi.heap.size wi w' ∧ w'.cell? ⟨b1, o1 + k * 2, none⟩ = some (.int .i64 s.1) ∧ w'.cell? ⟨b1, o1 + k * 2 + 1, none⟩ = some (.int .i64 s.2))
              ((try go_split_ands
                refine HKEEP.out _ ?_
                repeat (first | assumption | exact bl_refl _ | refine bl_drew ?_ | refine bl_alloc ?_ _)))
              (first
                | (go_split_ands; refine step_src _ (by rfl) (.tmp 37) (.tmp 40) 22 (by rfl) wi.heap.size 38 i0 (.agg #[.int .i64 0, .int .i64 0]) 2 16 Try.underlying22 hi0 hz0' hz1 hz2 rfl (by decide) (.slice (some ⟨_, 0, none⟩) 0 0) 0 [] (by rfl) (own_at (by (try refine heap_drew ?_); first | exact heap_new (by simp) | exact heap_old (heap_new (by simp))) (by first | (simp; done) | (simp; omega))) (some (⟨g, 0, none⟩ : Addr)) (j + 1) cO ((flat O).take ((j + 1) * 2)) (by rfl) (src_below SLO.out (by assumption)) HONE1.out (by omega) (by decide) (by first | (simp; done) | (simp; omega)) ?_; intro v8 w8 hv8 hg8; have B8 := bl_grown (a := wi) (by assumption) hg8 (fun k hk => by cases hk; first | (simp; done) | (simp; omega)))
                | (go_split_ands; refine step_src _ (by rfl) (.tmp 47) (.tmp 50) 22 (by rfl) wi.heap.size 38 i0 (.agg #[.int .i64 0, .int .i64 0]) 2 16 Try.underlying22 hi0 hz0' hz1 hz2 rfl (by decide) v9 (0 + (j + 1) + 1) ([] ++ (flat O).take ((j + 1) * 2) ++ [.int .i64 s.1, .int .i64 s.2]) (by rfl) hv9 a2 (k - (j + 1)) (cO - (j + 1)) ((flat O).drop ((j + 1) * 2)) (by rfl) (src_below SHI.out (by assumption)) HONE2.out (by omega) (by decide) (by have := B9.size; omega) ?_; intro va wa hva hga; have Ba := bl_grown (a := wi) (by assumption) hga (fun k hk => (hv9.lt k hk).1))
                | (go_split_ands; refine step_src _ (by rfl) (.tmp 41) (.tmp 46) 22 (by rfl) wi.heap.size 38 i0 (.agg #[.int .i64 0, .int .i64 0]) 2 16 Try.underlying22 hi0 hz0' hz1 hz2 rfl (by decide) v8 (0 + (j + 1)) ([] ++ (flat O).take ((j + 1) * 2)) (by rfl) (by first | exact hv8 | exact own_below hv8 (bl_drew (bl_alloc (bl_refl _) _)) | exact own_below hv8 (bl_alloc (bl_refl _) _)) (some ⟨_, 0, none⟩) 1 1 [.int .i64 s.1, .int .i64 s.2] (by rfl) (by first | exact src_block (cs := #[.int .i64 s.1, .int .i64 s.2]) (by (try refine heap_drew ?_); first | exact heap_new (by simp) | exact heap_old (heap_new (by simp))) rfl | exact src_block (cs := #[.int .i64 s.1, .int .i64 s.2]) (heap_kept hg8 (by (try refine heap_drew ?_); first | exact heap_new (by simp) | exact heap_old (heap_new (by simp))) (by simp [Value.ownBlock])) rfl) (by simp [Value.oneCell']) (by omega) (by decide) (by have := B8.size; simp; omega) ?_; intro v9 w9 hv9 hg9; have B9 := bl_grown (a := wi) (by assumption) hg9 (fun k hk => (hv8.lt k hk).1))
                | fail)
            all_goals
              clear hv8 hv9 hg8 hg9 hga B8 B9 hslo hshi
              go_wp2
              refine ⟨?_, by first | (simp [intOf]; done) | (simp [intOf]; omega)⟩
              exact FIN.out _ _ hva Ba
          · have HD2 := hide (HDN.out rfl)
            clear HF1 HTL HDN
            go_wp2
            refine ⟨?_, by first | (simp [intOf]; done) | (simp [intOf]; omega)⟩
            first
              | exact ⟨j, by go_num, by omega, HD2, hbi9⟩
              | ((repeat apply Exists.intro); exact ⟨⟨j, by go_num, by omega, HD2, hbi9⟩, rfl⟩)
    · obtain rfl : k = l.length := by omega
      have hU := HUU.out
      have hP := HP.out
      rw [List.take_length] at hP
      rw [hP] at hU
      have HU2 := hide hU
      have hOl : O.length = l.length := HOL.out
      rw [← hOl] at hv
      have HSP := hide (own_spatL hv)
      obtain ⟨aO, cO, rfl⟩ := spat_len HSP.out
      obtain ⟨S, hS⟩ : ∃ S, O = S := ⟨_, rfl⟩
      subst hS
      have hSl : O.length ≤ 1000 := by omega
      obtain ⟨wr0, rfl⟩ : ∃ w1 : World, w1 = wr := ⟨_, rfl⟩
      have hb1 := hbl
      clear hU hP hv hOl HP HOL hlt W0 HUU hbl hl hk
      go_wp2
      go_loopw [6, 7] (fun v i wr => RMInv O wr0 v i wr) (fun _ i _ => O.length - (intOf i).toNat)
      case atStart => exact ⟨0, 0, [], rfl, Nat.zero_le _, hide rfl, Nat.le_refl _, hide rfl, ⟨rfl, .inl ⟨rfl, rfl⟩⟩, bl_refl wr0⟩
      case round =>
        obtain ⟨k, m, acc, rfl, hk, HU, hmk, HM, hv, hbk⟩ := hrel
        by_cases hlt : k < O.length
        · obtain ⟨b1, o1, c1, hv1, hc1, hm1, hlb1, hcell1⟩ := spat_some (spat_below HSP.out hbk) (by omega)
          injection hv1 with hv1 _ hv1c
          subst hv1 hv1c
          unfold maxLen at hm1
          obtain ⟨x1, x2⟩ := hcell1 k hlt
          have hus := mrg_snoc O k hlt
          rw [HU.out] at hus
          clear hcell1
          obtain ⟨s, hs⟩ : ∃ s, O[k] = s := ⟨_, rfl⟩
          rw [hs] at hus x1 x2
          have fin : ∀ (v' : Value) (W : World) (acc' : List Sp) (m' : Nat), m' ≤ k + 1 → acc'.length = m' → stepL acc s = acc' → W.ownsRow wr0.heap.size 38 2 v' m' (flat acc') → Below wr0.heap.size wr0 W → RMInv O wr0 v' (.int .i64 ((k : Int) + 1)) W :=
            fun v' W acc' m' h0 h4 h1 h2 h3 => ⟨k + 1, m', acc', by go_num, by omega, hide (by rw [hus, h1]), h0, hide h4, h2, h3⟩
          have FIN := hide fin
          clear fin hus hs HU
          have hbw : wr0.heap.size ≤ wr.heap.size := hbk.size
          obtain ⟨aV, cV, rfl⟩ := own_slice hv
          have HV := hide hv
          clear hv
          rcases List.eq_nil_or_concat acc with rfl | ⟨a0, t, rfl⟩
          · obtain rfl : m = 0 := by have := HM.out; simpa using this.symm
            have HST := hide (stL_nil s)
            clear HM
            go_wp2
            go_quiet (fail)
            go_wp2_with (at_builtin; (refine wpList_push (wr.drewN nq) rfl _ _ 22 rfl wr0.heap.size 38 i0 (.agg #[.int .i64 0, .int .i64 0]) 2 16 Try.underlying22 hi0 hz0' hz1 hz2 rfl (by decide) (.slice aV 0 cV) 0 (flat []) rfl (own_below HV.out (bl_drewN (bl_refl _) nq)) 1 #[.int .i64 s.1, .int .i64 s.2] (by show Value.slice (some ⟨wr.heap.size, 0, none⟩) 1 1 = _; simp) rfl (by simp [Value.oneCell']) (by omega) (by decide) (by simp; omega) ?_); intro v' w4 hv4 hg4 hat)
            have hbl4 : Below wr0.heap.size wr0 w4 := bl_own (bl_drewN hbk nq) (own_below HV.out (bl_drewN (bl_refl _) nq)) hg4 (Nat.le_refl _)
            refine ⟨?_, by first | (simp [intOf]; done) | (simp [intOf]; omega)⟩
            exact FIN.out _ _ [s] 1 (by omega) rfl HST.out hv4 hbl4
          · rw [List.concat_eq_append] at *
            obtain rfl : m = a0.length + 1 := by have := HM.out; simp at this; omega
            have hget : (a0 ++ [t])[a0.length]'(by simp) = t := by simp
            have hat2 := flat_at (a0 ++ [t]) a0.length (by simp)
            rw [hget] at hat2
            rcases own_form HV.out with ⟨_, h1, _⟩ | ⟨g, cg, hvv, hg1, hg2, hg3, hg4, hg5⟩
            · omega
            injection hvv with hq1 _ hq2
            subst hq1 hq2
            have z1 := hg5 _ _ hat2.1
            have z2 := hg5 _ _ hat2.2
            unfold maxLen at hg4
            have hd : decide ((0 : Int) < (a0.length : Int) + 1) = true := by first | (simp; done) | (simp; omega)
            have gln : decide (a0.length < a0.length + 1) = true := by simp
            have gdir : decide (t.2 < t.1) = decide (t.2 < t.1) := rfl
            obtain ⟨dir, hdir⟩ : ∃ b, decide (t.2 < t.1) = b := ⟨_, rfl⟩
            obtain ⟨kt, hkt⟩ : ∃ kt, ky (t.1, t.2) = kt := ⟨_, rfl⟩
            obtain ⟨ks, hks⟩ : ∃ ks, ky (s.1, s.2) = ks := ⟨_, rfl⟩
            have HA := hide (fun W => rspan_b t.1 t.2 kt hkt W)
            have HB := hide (fun W => rspan_b s.1 s.2 ks hks W)
            have hset2 : ((flat (a0 ++ [t])).set (a0.length * 2) (.int .i64 (covL t s).1)).set (a0.length * 2 + 1) (.int .i64 (covL t s).2) = flat (a0 ++ [covL t s]) := by
              rw [flat_set _ a0.length (by simp)]; simp
            have hcov : ofL (kt.1, max kt.2 ks.2) dir = covL t s := by
              have e1 : ky t = kt := hkt
              have e2 : ky s = ks := hks
              unfold ofL covL
              rw [e1, e2, ← hdir]
              by_cases hq : t.2 < t.1
              · rw [if_pos hq, if_pos (decide_eq_true hq)]
              · rw [if_neg hq, if_neg (by rw [decide_eq_false hq]; simp)]
            have HS2 := hide hset2
            clear hg5 hat2 hget HM hset2 gdir
            obtain ⟨r, hr⟩ : ∃ r, touch kt ks = r := ⟨_, rfl⟩
            have HT := hide (fun W => rtouch_b kt ks r hr W)
            have hrr : touch (ky t) (ky s) = r := by
              have e1 : ky t = kt := hkt
              have e2 : ky s = ks := hks
              rw [e1, e2]; exact hr
            have HRR := hide hrr
            have HDIR := hide hdir
            have HCV := hide hcov
            clear hr hrr hkt hks hdir hcov
            go_wp2
            refine wp_region_later (by kernel_rfl) (by kernel_rfl) ?_
            repeat (go_big_quiet_step (first
              | (go_at_call_of 22 (Value.agg #[Value.int IntKind.i64 t.1, Value.int IntKind.i64 t.2]); exact later_call (HA.out _))
              | (go_at_call_of 22 (Value.agg #[Value.int IntKind.i64 s.1, Value.int IntKind.i64 s.2]); exact later_call (HB.out _))
              | (go_at_call 33; exact later_call (HT.out _))
              | exact rfl))
            refine wpQuiet_nil ?_
            rintro w9 ⟨⟨_, hb9⟩, rfl⟩
            have HV9 := hide (own_below HV.out hb9)
            have hbl9 := bl_trans hbk hb9
            have e1 := cell_later hb9 x1
            have e2 := cell_later hb9 x2
            have z1 := cell_later hb9 z1
            have z2 := cell_later hb9 z2
            have hbs9 := hb9.size
            clear x1 x2 HV HT
            cases r
            · have HST := hide (stL_new a0 t s HRR.out)
              clear z1 z2 HCV HDIR
              go_wp2_with (at_builtin; (refine wpList_push w9 rfl _ _ 22 rfl wr0.heap.size 38 i0 (.agg #[.int .i64 0, .int .i64 0]) 2 16 Try.underlying22 hi0 hz0' hz1 hz2 rfl (by decide) (.slice (some ⟨g, 0, none⟩) (a0.length + 1) cV) (a0.length + 1) (flat (a0 ++ [t])) rfl HV9.out 1 #[.int .i64 s.1, .int .i64 s.2] rfl rfl (by simp [Value.oneCell']) (by omega) (by decide) (by omega) ?_); intro v' w4 hv4 hg4 hat)
              have hbl4 : Below wr0.heap.size wr0 w4 := bl_own hbl9 HV9.out hg4 (Nat.le_refl _)
              have hv5 : w4.ownsRow wr0.heap.size 38 2 v' (a0.length + 1 + 1) (flat (a0 ++ [t] ++ [s])) := by
                rw [flat_app (a0 ++ [t])]; exact hv4
              refine ⟨?_, by first | (simp [intOf]; done) | (simp [intOf]; omega)⟩
              exact FIN.out _ _ _ _ (by omega) (by simp) HST.out hv5 hbl4
            · have HST := hide (stL_on a0 t s HRR.out)
              have HB9 := hide hbl9
              have hgw : g < w9.heap.size := World.block_lt_of_cell? _ _ z1
              have hbw9 : b1 < w9.heap.size := World.block_lt_of_cell? _ _ e1
              clear hb9 hbl9
              have HKEEP := hide (fun W (hh : Below w9.heap.size w9 W) => And.intro hh (And.intro (cell_later hh z1) (And.intro (cell_later hh z2) (And.intro (cell_later hh e1) (cell_later hh e2)))))
              have q1 : IntKind.i64.wrap ((a0.length : Int) + 1 - 1) = (a0.length : Int) := by rw [IntKind.wrap_i64]; omega
              have q6 : IntKind.i64.wrap (a0.length : Int) = (a0.length : Int) := by rw [IntKind.wrap_i64]; omega
              have q2 : (0 : Int) ≤ (a0.length : Int) := by omega
              have q3 : (a0.length : Int) < (a0.length : Int) + 1 := by omega
              have q4 : (0 : Int) ≤ (k : Int) := by omega
              have q5 : (k : Int) < (O.length : Int) := by omega
              have HDD := HDIR.out
              obtain ⟨cv, hcv⟩ : ∃ c, covL t s = c := ⟨_, rfl⟩
              rw [hcv] at HCV HS2 HST
              have HOF : Hid (∀ (W : World) (x : Int), x = max kt.2 ks.2 → Calls Try.prog 34 #[.agg #[.int .i64 kt.1, .int .i64 x], .bool dir] W fun e w' => e = .returned (.agg #[.int .i64 cv.1, .int .i64 cv.2]) ∧ Below W.heap.size W w') := hide (fun W x hx => rof_b (kt.1, x) cv dir (by rw [hx]; exact HCV.out) W)
              clear hcv
              go_upto_region 15 with fail
              go_cut [9, 10] from 76 to 86 (fun p q wx => ∃ n9 n10 : Nat, p = .pointer (some ⟨n9, 0, none⟩) ∧ q = .pointer (some ⟨n10, 0, none⟩) ∧ Below w9.heap.size w9 wx ∧ wx.cell? ⟨n9, 0, none⟩ = some (.int .i64 kt.1) ∧ wx.cell? ⟨n9, 1, none⟩ = some (.int .i64 kt.2) ∧ wx.cell? ⟨n10, 1, none⟩ = some (.int .i64 ks.2) ∧ w9.heap.size ≤ n9 ∧ w9.heap.size ≤ n10)
              case first =>
                go_region_held3 (fun W => Below w9.heap.size w9 W ∧ W.cell? ⟨g, a0.length * 2, none⟩ = some (.int .i64 t.1) ∧ W.cell? ⟨g, a0.length * 2 + 1, none⟩ = some (.int .i64 t.2) ∧ W.cell? ⟨b1, o1 + k * 2, none⟩ = some (.int .i64 s.1) ∧ W.cell? ⟨b1, o1 + k * 2 + 1, none⟩ = some (.int .i64 s.2))
                  ((try go_split_ands
                    refine HKEEP.out _ ?_
                    repeat (first | assumption | exact bl_refl _ | refine bl_drew ?_ | refine bl_alloc ?_ _ | refine bl_set ?_ (by first | (simp; done) | (simp; omega) | (dsimp only; omega)) _)))
                  (first
                  | (go_at_call_of 22 (Value.agg #[Value.int IntKind.i64 t.1, Value.int IntKind.i64 t.2]); go_split_ands; (with_reducible refine (HA.out _).mono ?_); rintro e wa ⟨rfl, hba⟩; have hbz : Below w9.heap.size w9 wa := bl_trans (by repeat (first | assumption | exact bl_refl _ | refine bl_drew ?_ | refine bl_alloc ?_ _)) hba; obtain ⟨_, z1, z2, e1, e2⟩ := HKEEP.out wa hbz; have L1 := fun (b o : Nat) h => hba.cell (p := ⟨b, o, none⟩) h; have L2 := fun (b o : Nat) h => hba.frozen (p := ⟨b, o, none⟩) h; have hs1 := hba.size; (try simp at hs1); (try have hs5 := Nat.lt_of_succ_le hs1); (try have hs6 := Nat.lt_of_succ_lt hs5); have hbwa := Nat.lt_of_lt_of_le hbw9 hbz.size; have hgwa := Nat.lt_of_lt_of_le hgw hbz.size; (try (refine (show wa.cell? ⟨w9.heap.size, 0, none⟩ = some (.int .i64 0) → _ from fun q => ?_) (cell_later hba ?_); rotate_left; focus (go_simp; done))); (try (refine (show wa.cell? ⟨w9.heap.size, 1, none⟩ = some (.int .i64 0) → _ from fun q => ?_) (cell_later hba ?_); rotate_left; focus (go_simp; done))); (try (refine (show wa.cell? ⟨(w9.heap.size + 1), 0, none⟩ = some (.int .i64 0) → _ from fun q => ?_) (cell_later hba ?_); rotate_left; focus (go_simp; done))); (try (refine (show wa.cell? ⟨(w9.heap.size + 1), 1, none⟩ = some (.int .i64 0) → _ from fun q => ?_) (cell_later hba ?_); rotate_left; focus (go_simp; done))))
                  | (go_at_call_of 22 (Value.agg #[Value.int IntKind.i64 s.1, Value.int IntKind.i64 s.2]); go_split_ands; (with_reducible refine (HB.out _).mono ?_); rintro e wb ⟨rfl, hbb⟩; have hbz2 : Below w9.heap.size w9 wb := bl_trans (by repeat (first | assumption | exact bl_refl _ | refine bl_drew ?_ | refine bl_alloc ?_ _)) hbb; obtain ⟨_, z1, z2, e1, e2⟩ := HKEEP.out wb hbz2; have L3 := fun (b o : Nat) h => hbb.cell (p := ⟨b, o, none⟩) h; have L4 := fun (b o : Nat) h => hbb.frozen (p := ⟨b, o, none⟩) h; have hs2 := hbb.size; (try simp at hs2); (try have hs3 := Nat.lt_of_succ_le hs2); (try have hs4 := Nat.lt_of_succ_lt hs3); (try have hs7 := Nat.lt_of_lt_of_le hs5 hbb.size); (try have hs8 := Nat.lt_trans hs5 hs3); (try have hs9 := Nat.lt_of_lt_of_le hs6 hbb.size); (try have hs10 := Nat.lt_trans hs6 hs3); have hbwb := Nat.lt_of_lt_of_le hbw9 hbz2.size; have hgwb := Nat.lt_of_lt_of_le hgw hbz2.size; (try (refine (show wb.cell? ⟨wa.heap.size, 0, none⟩ = some (.int .i64 0) → _ from fun q => ?_) (cell_later hbb ?_); rotate_left; focus (go_simp; done))); (try (refine (show wb.cell? ⟨wa.heap.size, 1, none⟩ = some (.int .i64 0) → _ from fun q => ?_) (cell_later hbb ?_); rotate_left; focus (go_simp; done))); (try (refine (show wb.cell? ⟨(wa.heap.size + 1), 0, none⟩ = some (.int .i64 0) → _ from fun q => ?_) (cell_later hbb ?_); rotate_left; focus (go_simp; done))); (try (refine (show wb.cell? ⟨(wa.heap.size + 1), 1, none⟩ = some (.int .i64 0) → _ from fun q => ?_) (cell_later hbb ?_); rotate_left; focus (go_simp; done))); (try (refine (show wb.cell? ⟨w9.heap.size, 0, none⟩ = some (.int .i64 0) → _ from fun q => ?_) (cell_later hbb ?_); rotate_left; focus (go_simp; done))); (try (refine (show wb.cell? ⟨w9.heap.size, 1, none⟩ = some (.int .i64 0) → _ from fun q => ?_) (cell_later hbb ?_); rotate_left; focus (go_simp; done))); (try (refine (show wb.cell? ⟨(w9.heap.size + 1), 0, none⟩ = some (.int .i64 0) → _ from fun q => ?_) (cell_later hbb ?_); rotate_left; focus (go_simp; done))); (try (refine (show wb.cell? ⟨(w9.heap.size + 1), 1, none⟩ = some (.int .i64 0) → _ from fun q => ?_) (cell_later hbb ?_); rotate_left; focus (go_simp; done))))
                  | fail)
                all_goals
                  go_wp2_with fail
                  have h5 := hbz.size
                  have h6 := hbz2.size
                  go_meet
                  exact ⟨_, _, rfl, rfl, by repeat (first | assumption | exact bl_refl _ | refine bl_drew ?_ | refine bl_alloc ?_ _ | refine bl_set ?_ (by first | (simp; done) | (simp; omega) | (dsimp only; omega)) _), by go_simp, by go_simp, by go_simp, by first | exact Nat.le_refl _ | omega, by first | exact Nat.le_refl _ | omega⟩
              case rest =>
                obtain ⟨n9, n10, rfl, rfl, hbx, c9a, c9b, c10b, ln9, ln10⟩ := hcut
                obtain ⟨_, z1, z2, e1, e2⟩ := HKEEP.out wc hbx
                have m1 := World.block_lt_of_cell? _ _ c9a
                have m2 := World.block_lt_of_cell? _ _ c10b
                have m3 := World.block_lt_of_cell? _ _ z1
                go_wp2
                clear HA HB hgw hbw9 e1 e2
                have hn9 : g ≠ n9 := by omega
                have hn10 : g ≠ n10 := by omega
                have HK16 := hide (show ∀ W, Below wc.heap.size wc W → Below wr0.heap.size wr0 W ∧ W.cell? ⟨n9, 0, none⟩ = some (.int .i64 kt.1) ∧ W.cell? ⟨n9, 1, none⟩ = some (.int .i64 kt.2) ∧ W.cell? ⟨n10, 1, none⟩ = some (.int .i64 ks.2) from fun W hh => ⟨bl_trans (bl_trans HB9.out hbx) hh, cell_later hh c9a, cell_later hh c9b, cell_later hh c10b⟩)
                have HK17 := hide (show ∀ (W : World) (v1 v2 : Value), Below wc.heap.size wc W → Below wr0.heap.size wr0 ((W.setCell ⟨g, a0.length * 2, none⟩ v1).setCell ⟨g, a0.length * 2 + 1, none⟩ v2) ∧ ((W.setCell ⟨g, a0.length * 2, none⟩ v1).setCell ⟨g, a0.length * 2 + 1, none⟩ v2).cell? ⟨n9, 0, none⟩ = some (.int .i64 kt.1) ∧ ((W.setCell ⟨g, a0.length * 2, none⟩ v1).setCell ⟨g, a0.length * 2 + 1, none⟩ v2).cell? ⟨n9, 1, none⟩ = some (.int .i64 kt.2) ∧ ((W.setCell ⟨g, a0.length * 2, none⟩ v1).setCell ⟨g, a0.length * 2 + 1, none⟩ v2).cell? ⟨n10, 1, none⟩ = some (.int .i64 ks.2) from fun W v1 v2 hh => by
                  obtain ⟨k1, k2, k3, k4⟩ := HK16.out W hh
                  refine ⟨bl_set (bl_set k1 (p := ⟨g, a0.length * 2, none⟩) hg1 v1) (p := ⟨g, a0.length * 2 + 1, none⟩) hg1 v2, ?_, ?_, ?_⟩
                  · rw [World.cell?_setCell_far _ _ _ _ hn9, World.cell?_setCell_far _ _ _ _ hn9]; exact k2
                  · rw [World.cell?_setCell_far _ _ _ _ hn9, World.cell?_setCell_far _ _ _ _ hn9]; exact k3
                  · rw [World.cell?_setCell_far _ _ _ _ hn10, World.cell?_setCell_far _ _ _ _ hn10]; exact k4)
                refine wp_region_noPanic ?_
                refine wp_region_held_drew (S := (fun W => Below wr0.heap.size wr0 W ∧ W.cell? ⟨n9, 0, none⟩ = some (.int .i64 kt.1) ∧ W.cell? ⟨n9, 1, none⟩ = some (.int .i64 kt.2) ∧ W.cell? ⟨n10, 1, none⟩ = some (.int .i64 ks.2))) (by kernel_rfl) ?_ (fun hHeld => ?_)
                focus
                  (try dsimp only)
                  (first
                    | (refine HK16.out _ ?_; first | exact bl_refl _ | exact bl_drew (bl_refl _) | assumption | (refine bl_drew ?_; assumption))
                    | (refine HK17.out _ _ _ ?_; first | assumption | (refine bl_drew ?_; assumption))
                    | (refine HK16.out _ ?_; repeat (first | assumption | exact bl_refl _ | refine bl_drew ?_)))
                refine wpAnyH_take (i := 0) (oi := { dst := some 87, op := Op.move (Operand.tmp 6), type := 22, pos := "ref.go:38", after := #[], guard := none }) (v := ?_) rfl (by kernel_rfl) (by kernel_rfl) (by kernel_rfl) (fun _ _ _ h => h) (Or.inl ⟨by rfl, ?_⟩) (by assumption) ?_
                rotate_left
                focus
                  intro w hSw
                  (try dsimp only at hSw)
                  first | (go_simp; done) | (go_simp; with_reducible rfl)
                try simp only [Act.put, List.setIfInBounds_toArray, List.set_cons_zero, List.set_cons_succ]
                refine wpAnyH_take (i := 1) (oi := { dst := some 88, op := Op.move (Operand.tmp 8), type := 3, pos := "ref.go:38", after := #[], guard := none }) (v := ?_) rfl (by kernel_rfl) (by kernel_rfl) (by kernel_rfl) (fun _ _ _ h => h) (Or.inl ⟨by rfl, ?_⟩) (by assumption) ?_
                rotate_left
                focus
                  intro w hSw
                  (try dsimp only at hSw)
                  first | (go_simp; done) | (go_simp; with_reducible rfl)
                try simp only [Act.put, List.setIfInBounds_toArray, List.set_cons_zero, List.set_cons_succ]
                refine wpAnyH_take (i := 2) (oi := { dst := some 89, op := Op.binOp BinOp.sub 3 (Operand.tmp 88) (Operand.const (Value.int IntKind.i64 1)) 3, type := 3, pos := "ref.go:38", after := #[{ on := 1, ground := Ground.data }], guard := none }) (v := ?_) rfl (by kernel_rfl) (by kernel_rfl) (by kernel_rfl) (fun _ _ _ h => h) (Or.inl ⟨by rfl, ?_⟩) (by assumption) ?_
                rotate_left
                focus
                  intro w hSw
                  (try dsimp only at hSw)
                  first | (go_simp; done) | (go_simp; with_reducible rfl)
                try simp only [Act.put, List.setIfInBounds_toArray, List.set_cons_zero, List.set_cons_succ]
                refine wpAnyH_take (i := 3) (oi := { dst := some 90, op := Op.fieldAddr 35 (Operand.tmp 9) 0, type := 0, pos := "ref.go:38", after := #[], guard := none }) (v := ?_) rfl (by kernel_rfl) (by kernel_rfl) (by kernel_rfl) (fun _ _ _ h => h) (Or.inl ⟨by rfl, ?_⟩) (by assumption) ?_
                rotate_left
                focus
                  intro w hSw
                  (try dsimp only at hSw)
                  first | (go_simp; done) | (go_simp; with_reducible rfl)
                try simp only [Act.put, List.setIfInBounds_toArray, List.set_cons_zero, List.set_cons_succ]
                refine wpAnyH_take (i := 4) (oi := { dst := some 91, op := Op.load 3 (Operand.tmp 90), type := 3, pos := "ref.go:38", after := #[{ on := 3, ground := Ground.data }], guard := none }) (v := ?_) rfl (by kernel_rfl) (by kernel_rfl) (by kernel_rfl) (fun _ _ _ h => h) (Or.inl ⟨by rfl, ?_⟩) (by assumption) ?_
                rotate_left
                focus
                  intro w hSw
                  (try dsimp only at hSw)
                  first | (go_simp; done) | (go_simp; with_reducible rfl)
                try simp only [Act.put, List.setIfInBounds_toArray, List.set_cons_zero, List.set_cons_succ]
                refine wpAnyH_take (i := 5) (oi := { dst := some 92, op := Op.fieldAddr 35 (Operand.tmp 9) 1, type := 0, pos := "ref.go:38", after := #[], guard := none }) (v := ?_) rfl (by kernel_rfl) (by kernel_rfl) (by kernel_rfl) (fun _ _ _ h => h) (Or.inl ⟨by rfl, ?_⟩) (by assumption) ?_
                rotate_left
                focus
                  intro w hSw
                  (try dsimp only at hSw)
                  first | (go_simp; done) | (go_simp; with_reducible rfl)
                try simp only [Act.put, List.setIfInBounds_toArray, List.set_cons_zero, List.set_cons_succ]
                refine wpAnyH_take (i := 6) (oi := { dst := some 93, op := Op.load 3 (Operand.tmp 92), type := 3, pos := "ref.go:38", after := #[{ on := 5, ground := Ground.data }], guard := none }) (v := ?_) rfl (by kernel_rfl) (by kernel_rfl) (by kernel_rfl) (fun _ _ _ h => h) (Or.inl ⟨by rfl, ?_⟩) (by assumption) ?_
                rotate_left
                focus
                  intro w hSw
                  (try dsimp only at hSw)
                  first | (go_simp; done) | (go_simp; with_reducible rfl)
                try simp only [Act.put, List.setIfInBounds_toArray, List.set_cons_zero, List.set_cons_succ]
                refine wpAnyH_take (i := 7) (oi := { dst := some 94, op := Op.fieldAddr 35 (Operand.tmp 10) 1, type := 0, pos := "ref.go:38", after := #[], guard := none }) (v := ?_) rfl (by kernel_rfl) (by kernel_rfl) (by kernel_rfl) (fun _ _ _ h => h) (Or.inl ⟨by rfl, ?_⟩) (by assumption) ?_
                rotate_left
                focus
                  intro w hSw
                  (try dsimp only at hSw)
                  first | (go_simp; done) | (go_simp; with_reducible rfl)
                try simp only [Act.put, List.setIfInBounds_toArray, List.set_cons_zero, List.set_cons_succ]
                refine wpAnyH_take (i := 8) (oi := { dst := some 95, op := Op.load 3 (Operand.tmp 94), type := 3, pos := "ref.go:38", after := #[{ on := 7, ground := Ground.data }], guard := none }) (v := ?_) rfl (by kernel_rfl) (by kernel_rfl) (by kernel_rfl) (fun _ _ _ h => h) (Or.inl ⟨by rfl, ?_⟩) (by assumption) ?_
                rotate_left
                focus
                  intro w hSw
                  (try dsimp only at hSw)
                  first | (go_simp; done) | (go_simp; with_reducible rfl)
                try simp only [Act.put, List.setIfInBounds_toArray, List.set_cons_zero, List.set_cons_succ]
                refine wpAnyH_take (i := 9) (oi := { dst := some 96, op := Op.call { callee := Callee.builtin Builtin.max, args := #[Operand.tmp 93, Operand.tmp 95], argTypes := #[3, 3] }, type := 3, pos := "ref.go:38", after := #[{ on := 6, ground := Ground.data }, { on := 8, ground := Ground.data }], guard := none }) (v := ?_) rfl (by kernel_rfl) (by kernel_rfl) (by kernel_rfl) (fun _ _ _ h => h) (Or.inl ⟨by rfl, ?_⟩) (by assumption) ?_
                rotate_left
                focus
                  intro w hSw
                  (try dsimp only at hSw)
                  first | (go_simp; done) | (go_simp; with_reducible rfl)
                try simp only [Act.put, List.setIfInBounds_toArray, List.set_cons_zero, List.set_cons_succ]
                refine wpAnyH_take (i := 10) (oi := { dst := some 97, op := Op.build 35 #[(0, Operand.tmp 91), (1, Operand.tmp 96)], type := 35, pos := "ref.go:38", after := #[{ on := 4, ground := Ground.data }, { on := 9, ground := Ground.data }], guard := none }) (v := ?_) rfl (by kernel_rfl) (by kernel_rfl) (by kernel_rfl) (fun _ _ _ h => h) (Or.inl ⟨by rfl, ?_⟩) (by assumption) ?_
                rotate_left
                focus
                  intro w hSw
                  (try dsimp only at hSw)
                  first | (go_simp; done) | (go_simp; with_reducible rfl)
                try simp only [Act.put, List.setIfInBounds_toArray, List.set_cons_zero, List.set_cons_succ]
                refine wpAnyH_take (i := 11) (oi := { dst := some 98, op := Op.move (Operand.tmp 6), type := 22, pos := "ref.go:38", after := #[], guard := none }) (v := ?_) rfl (by kernel_rfl) (by kernel_rfl) (by kernel_rfl) (fun _ _ _ h => h) (Or.inl ⟨by rfl, ?_⟩) (by assumption) ?_
                rotate_left
                focus
                  intro w hSw
                  (try dsimp only at hSw)
                  first | (go_simp; done) | (go_simp; with_reducible rfl)
                try simp only [Act.put, List.setIfInBounds_toArray, List.set_cons_zero, List.set_cons_succ]
                refine wpAnyH_take (i := 12) (oi := { dst := some 99, op := Op.move (Operand.tmp 8), type := 3, pos := "ref.go:38", after := #[], guard := none }) (v := ?_) rfl (by kernel_rfl) (by kernel_rfl) (by kernel_rfl) (fun _ _ _ h => h) (Or.inl ⟨by rfl, ?_⟩) (by assumption) ?_
                rotate_left
                focus
                  intro w hSw
                  (try dsimp only at hSw)
                  first | (go_simp; done) | (go_simp; with_reducible rfl)
                try simp only [Act.put, List.setIfInBounds_toArray, List.set_cons_zero, List.set_cons_succ]
                refine wpAnyH_take (i := 13) (oi := { dst := some 100, op := Op.binOp BinOp.sub 3 (Operand.tmp 99) (Operand.const (Value.int IntKind.i64 1)) 3, type := 3, pos := "ref.go:38", after := #[{ on := 12, ground := Ground.data }], guard := none }) (v := ?_) rfl (by kernel_rfl) (by kernel_rfl) (by kernel_rfl) (fun _ _ _ h => h) (Or.inl ⟨by rfl, ?_⟩) (by assumption) ?_
                rotate_left
                focus
                  intro w hSw
                  (try dsimp only at hSw)
                  first | (go_simp; done) | (go_simp; with_reducible rfl)
                try simp only [Act.put, List.setIfInBounds_toArray, List.set_cons_zero, List.set_cons_succ]
                refine wpAnyH_take (i := 14) (oi := { dst := some 101, op := Op.indexAddr 22 (Operand.tmp 98) (Operand.tmp 100), type := 0, pos := "ref.go:38", after := #[{ on := 11, ground := Ground.data }, { on := 13, ground := Ground.data }], guard := none }) (v := ?_) rfl (by kernel_rfl) (by kernel_rfl) (by kernel_rfl) (fun _ _ _ h => h) (Or.inl ⟨by rfl, ?_⟩) (by assumption) ?_
                rotate_left
                focus
                  intro w hSw
                  (try dsimp only at hSw)
                  first | (go_simp; done) | (go_simp; with_reducible rfl)
                try simp only [Act.put, List.setIfInBounds_toArray, List.set_cons_zero, List.set_cons_succ]
                refine wpAnyH_take (i := 15) (oi := { dst := some 102, op := Op.fieldAddr 38 (Operand.tmp 101) 1, type := 0, pos := "ref.go:38", after := #[{ on := 14, ground := Ground.data }], guard := none }) (v := ?_) rfl (by kernel_rfl) (by kernel_rfl) (by kernel_rfl) (fun _ _ _ h => h) (Or.inl ⟨by rfl, ?_⟩) (by assumption) ?_
                rotate_left
                focus
                  intro w hSw
                  (try dsimp only at hSw)
                  first | (go_simp; done) | (go_simp; with_reducible rfl)
                try simp only [Act.put, List.setIfInBounds_toArray, List.set_cons_zero, List.set_cons_succ]
                refine wpAnyH_take (i := 17) (oi := { dst := some 104, op := Op.move (Operand.tmp 6), type := 22, pos := "ref.go:38", after := #[], guard := none }) (v := ?_) rfl (by kernel_rfl) (by kernel_rfl) (by kernel_rfl) (fun _ _ _ h => h) (Or.inl ⟨by rfl, ?_⟩) (by assumption) ?_
                rotate_left
                focus
                  intro w hSw
                  (try dsimp only at hSw)
                  first | (go_simp; done) | (go_simp; with_reducible rfl)
                try simp only [Act.put, List.setIfInBounds_toArray, List.set_cons_zero, List.set_cons_succ]
                refine wpAnyH_take (i := 18) (oi := { dst := some 105, op := Op.move (Operand.tmp 8), type := 3, pos := "ref.go:38", after := #[], guard := none }) (v := ?_) rfl (by kernel_rfl) (by kernel_rfl) (by kernel_rfl) (fun _ _ _ h => h) (Or.inl ⟨by rfl, ?_⟩) (by assumption) ?_
                rotate_left
                focus
                  intro w hSw
                  (try dsimp only at hSw)
                  first | (go_simp; done) | (go_simp; with_reducible rfl)
                try simp only [Act.put, List.setIfInBounds_toArray, List.set_cons_zero, List.set_cons_succ]
                refine wpAnyH_take (i := 19) (oi := { dst := some 106, op := Op.binOp BinOp.sub 3 (Operand.tmp 105) (Operand.const (Value.int IntKind.i64 1)) 3, type := 3, pos := "ref.go:38", after := #[{ on := 18, ground := Ground.data }], guard := none }) (v := ?_) rfl (by kernel_rfl) (by kernel_rfl) (by kernel_rfl) (fun _ _ _ h => h) (Or.inl ⟨by rfl, ?_⟩) (by assumption) ?_
                rotate_left
                focus
                  intro w hSw
                  (try dsimp only at hSw)
                  first | (go_simp; done) | (go_simp; with_reducible rfl)
                try simp only [Act.put, List.setIfInBounds_toArray, List.set_cons_zero, List.set_cons_succ]
                refine wpAnyH_take (i := 20) (oi := { dst := some 107, op := Op.indexAddr 22 (Operand.tmp 104) (Operand.tmp 106), type := 0, pos := "ref.go:38", after := #[{ on := 17, ground := Ground.data }, { on := 19, ground := Ground.data }], guard := none }) (v := ?_) rfl (by kernel_rfl) (by kernel_rfl) (by kernel_rfl) (fun _ _ _ h => h) (Or.inl ⟨by rfl, ?_⟩) (by assumption) ?_
                rotate_left
                focus
                  intro w hSw
                  (try dsimp only at hSw)
                  first | (go_simp; done) | (go_simp; with_reducible rfl)
                try simp only [Act.put, List.setIfInBounds_toArray, List.set_cons_zero, List.set_cons_succ]
                refine wpAnyH_take (i := 21) (oi := { dst := some 108, op := Op.fieldAddr 38 (Operand.tmp 107) 0, type := 0, pos := "ref.go:38", after := #[{ on := 20, ground := Ground.data }], guard := none }) (v := ?_) rfl (by kernel_rfl) (by kernel_rfl) (by kernel_rfl) (fun _ _ _ h => h) (Or.inl ⟨by rfl, ?_⟩) (by assumption) ?_
                rotate_left
                focus
                  intro w hSw
                  (try dsimp only at hSw)
                  first | (go_simp; done) | (go_simp; with_reducible rfl)
                try simp only [Act.put, List.setIfInBounds_toArray, List.set_cons_zero, List.set_cons_succ]
                refine wpAnyH_ready (rs := [16, 22]) (by kernel_rfl) (by simp) ?_
                refine AllReadyH.cons (o := { dst := some 103, op := Op.load 3 (Operand.tmp 102), type := 3, pos := "ref.go:38", after := #[{ on := 15, ground := Ground.data }], guard := none }) rfl (fun K hK => ?_) ?_
                focus
                  go_simp
                  refine hK.out _ _ ?_ (fun hHeld2 => ?_)
                  focus
                    (try dsimp only)
                    (first
                      | (refine HK16.out _ ?_; first | exact bl_refl _ | exact bl_drew (bl_refl _) | assumption | (refine bl_drew ?_; assumption))
                      | (refine HK17.out _ _ _ ?_; first | assumption | (refine bl_drew ?_; assumption))
                      | (refine HK16.out _ ?_; repeat (first | assumption | exact bl_refl _ | refine bl_drew ?_)))
                  clear hK K hHeld
                  have hHeld := hHeld2
                  clear hHeld2
                  try simp only [Act.put, List.setIfInBounds_toArray, List.set_cons_zero, List.set_cons_succ]
                  refine wpAnyH_ready (rs := [22]) (by kernel_rfl) (by simp) ?_
                  refine AllReadyH.cons (o := { dst := some 109, op := Op.load 3 (Operand.tmp 108), type := 3, pos := "ref.go:38", after := #[{ on := 21, ground := Ground.data }], guard := none }) rfl (fun K hK => ?_) ?_
                  focus
                    go_simp
                    refine hK.out _ _ ?_ (fun hHeld2 => ?_)
                    focus
                      (try dsimp only)
                      (first
                        | (refine HK16.out _ ?_; first | exact bl_refl _ | exact bl_drew (bl_refl _) | assumption | (refine bl_drew ?_; assumption))
                        | (refine HK17.out _ _ _ ?_; first | assumption | (refine bl_drew ?_; assumption))
                        | (refine HK16.out _ ?_; repeat (first | assumption | exact bl_refl _ | refine bl_drew ?_)))
                    clear hK K hHeld
                    have hHeld := hHeld2
                    clear hHeld2
                    try simp only [Act.put, List.setIfInBounds_toArray, List.set_cons_zero, List.set_cons_succ]
                    refine wpAnyH_take (i := 23) (oi := { dst := some 110, op := Op.binOp BinOp.lss 3 (Operand.tmp 103) (Operand.tmp 109) 3, type := 4, pos := "ref.go:38", after := #[{ on := 16, ground := Ground.data }, { on := 22, ground := Ground.data }], guard := none }) (v := ?_) rfl (by kernel_rfl) (by kernel_rfl) (by kernel_rfl) (fun _ _ _ h => h) (Or.inl ⟨by rfl, ?_⟩) (by assumption) ?_
                    rotate_left
                    focus
                      intro w hSw
                      (try dsimp only at hSw)
                      first | (go_simp; done) | (go_simp; with_reducible rfl)
                    try simp only [Act.put, List.setIfInBounds_toArray, List.set_cons_zero, List.set_cons_succ]
                    refine wpAnyH_ready (rs := [24]) (by kernel_rfl) (by simp) ?_
                    refine AllReadyH.cons (o := { dst := some 111, op := Op.call { callee := Callee.value (Operand.func 34), args := #[Operand.tmp 97, Operand.tmp 110], argTypes := #[35, 4] }, type := 38, pos := "ref.go:38", after := #[{ on := 10, ground := Ground.data }, { on := 23, ground := Ground.data }], guard := none }) rfl (fun K hK => ?_) ?_
                    focus
                      go_simp
                      (with_reducible refine (HOF.out _ _ (by omega)).mono ?_)
                      rintro e wd ⟨rfl, hbd⟩
                      have hbz3 : Below wc.heap.size wc wd := bl_trans (by repeat (first | assumption | exact bl_refl _ | refine bl_drew ?_)) hbd
                      have hbz4 := bl_trans hbx hbz3
                      have yf1 := World.ownsRow.frozenAt (own_below HV9.out hbz4) (a0.length * 2)
                      have yf2 := World.ownsRow.frozenAt (own_below HV9.out hbz4) (a0.length * 2 + 1)
                      have y1 := cell_later hbz3 z1
                      have y2 := cell_later hbz3 z2
                      clear hbd
                      go_wp2_with fail
                      refine hK.out _ _ ?_ (fun hHeld2 => ?_)
                      focus
                        (try dsimp only)
                        (first
                          | (refine HK16.out _ ?_; first | exact bl_refl _ | exact bl_drew (bl_refl _) | assumption | (refine bl_drew ?_; assumption))
                          | (refine HK17.out _ _ _ ?_; first | assumption | (refine bl_drew ?_; assumption))
                          | (refine HK16.out _ ?_; repeat (first | assumption | exact bl_refl _ | refine bl_drew ?_)))
                      clear hK K hHeld
                      have hHeld := hHeld2
                      clear hHeld2
                      try simp only [Act.put, List.setIfInBounds_toArray, List.set_cons_zero, List.set_cons_succ]
                      refine wpAnyH_take (i := 25) (oi := { dst := some 112, op := Op.indexAddr 22 (Operand.tmp 87) (Operand.tmp 89), type := 0, pos := "ref.go:38", after := _, guard := none }) (v := ?_) rfl (by kernel_rfl) (by kernel_rfl) (by kernel_rfl) (fun _ _ _ h => h) (Or.inl ⟨by rfl, ?_⟩) (by assumption) ?_
                      rotate_left
                      focus
                        intro w hSw
                        (try dsimp only at hSw)
                        first | (go_simp; done) | (go_simp; with_reducible rfl)
                      try simp only [Act.put, List.setIfInBounds_toArray, List.set_cons_zero, List.set_cons_succ]
                      refine wpAnyH_ready (rs := [26]) (by kernel_rfl) (by simp) ?_
                      refine AllReadyH.cons (o := { dst := none, op := Op.store 38 (Operand.tmp 112) (Operand.tmp 111), type := 0, pos := "ref.go:38", after := _, guard := none }) rfl (fun K hK => ?_) ?_
                      focus
                        go_simp
                        refine hK.out _ _ ?_ (fun hHeld2 => ?_)
                        focus
                          (try dsimp only)
                          (first
                            | (refine HK16.out _ ?_; first | exact bl_refl _ | exact bl_drew (bl_refl _) | assumption | (refine bl_drew ?_; assumption))
                            | (refine HK17.out _ _ _ ?_; first | assumption | (refine bl_drew ?_; assumption))
                            | (refine HK16.out _ ?_; repeat (first | assumption | exact bl_refl _ | refine bl_drew ?_)))
                        clear hK K hHeld
                        have hHeld := hHeld2
                        clear hHeld2
                        try simp only [Act.put, List.setIfInBounds_toArray, List.set_cons_zero, List.set_cons_succ]
                        refine wpAnyH_done (by kernel_rfl) ?_ _
                        refine NoPanic.normal ?_
                        go_wp2
                        have ho10 := own_below HV9.out hbz4
                        have hs1 := (World.ownsRow.stored ho10 (a0.length * 2) (.int .i64 cv.1)).1
                        have hs2 := (World.ownsRow.stored hs1 (a0.length * 2 + 1) (.int .i64 cv.2)).1
                        rw [HS2.out] at hs2
                        have hbs := bl_set (bl_set (bl_trans HB9.out hbz4) (p := ⟨g, a0.length * 2, none⟩) hg1 (.int .i64 cv.1)) (p := ⟨g, a0.length * 2 + 1, none⟩) hg1 (.int .i64 cv.2)
                        refine ⟨?_, by first | (simp [intOf]; done) | (simp [intOf]; omega)⟩
                        first
                          | exact FIN.out _ _ _ _ (by omega) (by simp) HST.out hs2 hbs
                          | exact FIN.out _ _ _ _ (by omega) (by simp) HST.out (World.ownsRow.drew hs2) (bl_drew hbs)
                      exact AllReadyH.nil
                    exact AllReadyH.nil
                  exact AllReadyH.nil
                refine AllReadyH.cons (o := { dst := some 109, op := Op.load 3 (Operand.tmp 108), type := 3, pos := "ref.go:38", after := #[{ on := 21, ground := Ground.data }], guard := none }) rfl (fun K hK => ?_) ?_
                focus
                  go_simp
                  refine hK.out _ _ ?_ (fun hHeld2 => ?_)
                  focus
                    (try dsimp only)
                    (first
                      | (refine HK16.out _ ?_; first | exact bl_refl _ | exact bl_drew (bl_refl _) | assumption | (refine bl_drew ?_; assumption))
                      | (refine HK17.out _ _ _ ?_; first | assumption | (refine bl_drew ?_; assumption))
                      | (refine HK16.out _ ?_; repeat (first | assumption | exact bl_refl _ | refine bl_drew ?_)))
                  clear hK K hHeld
                  have hHeld := hHeld2
                  clear hHeld2
                  try simp only [Act.put, List.setIfInBounds_toArray, List.set_cons_zero, List.set_cons_succ]
                  refine wpAnyH_ready (rs := [16]) (by kernel_rfl) (by simp) ?_
                  refine AllReadyH.cons (o := { dst := some 103, op := Op.load 3 (Operand.tmp 102), type := 3, pos := "ref.go:38", after := #[{ on := 15, ground := Ground.data }], guard := none }) rfl (fun K hK => ?_) ?_
                  focus
                    go_simp
                    refine hK.out _ _ ?_ (fun hHeld2 => ?_)
                    focus
                      (try dsimp only)
                      (first
                        | (refine HK16.out _ ?_; first | exact bl_refl _ | exact bl_drew (bl_refl _) | assumption | (refine bl_drew ?_; assumption))
                        | (refine HK17.out _ _ _ ?_; first | assumption | (refine bl_drew ?_; assumption))
                        | (refine HK16.out _ ?_; repeat (first | assumption | exact bl_refl _ | refine bl_drew ?_)))
                    clear hK K hHeld
                    have hHeld := hHeld2
                    clear hHeld2
                    try simp only [Act.put, List.setIfInBounds_toArray, List.set_cons_zero, List.set_cons_succ]
                    refine wpAnyH_take (i := 23) (oi := { dst := some 110, op := Op.binOp BinOp.lss 3 (Operand.tmp 103) (Operand.tmp 109) 3, type := 4, pos := "ref.go:38", after := #[{ on := 16, ground := Ground.data }, { on := 22, ground := Ground.data }], guard := none }) (v := ?_) rfl (by kernel_rfl) (by kernel_rfl) (by kernel_rfl) (fun _ _ _ h => h) (Or.inl ⟨by rfl, ?_⟩) (by assumption) ?_
                    rotate_left
                    focus
                      intro w hSw
                      (try dsimp only at hSw)
                      first | (go_simp; done) | (go_simp; with_reducible rfl)
                    try simp only [Act.put, List.setIfInBounds_toArray, List.set_cons_zero, List.set_cons_succ]
                    refine wpAnyH_ready (rs := [24]) (by kernel_rfl) (by simp) ?_
                    refine AllReadyH.cons (o := { dst := some 111, op := Op.call { callee := Callee.value (Operand.func 34), args := #[Operand.tmp 97, Operand.tmp 110], argTypes := #[35, 4] }, type := 38, pos := "ref.go:38", after := #[{ on := 10, ground := Ground.data }, { on := 23, ground := Ground.data }], guard := none }) rfl (fun K hK => ?_) ?_
                    focus
                      go_simp
                      (with_reducible refine (HOF.out _ _ (by omega)).mono ?_)
                      rintro e wd ⟨rfl, hbd⟩
                      have hbz3 : Below wc.heap.size wc wd := bl_trans (by repeat (first | assumption | exact bl_refl _ | refine bl_drew ?_)) hbd
                      have hbz4 := bl_trans hbx hbz3
                      have yf1 := World.ownsRow.frozenAt (own_below HV9.out hbz4) (a0.length * 2)
                      have yf2 := World.ownsRow.frozenAt (own_below HV9.out hbz4) (a0.length * 2 + 1)
                      have y1 := cell_later hbz3 z1
                      have y2 := cell_later hbz3 z2
                      clear hbd
                      go_wp2_with fail
                      refine hK.out _ _ ?_ (fun hHeld2 => ?_)
                      focus
                        (try dsimp only)
                        (first
                          | (refine HK16.out _ ?_; first | exact bl_refl _ | exact bl_drew (bl_refl _) | assumption | (refine bl_drew ?_; assumption))
                          | (refine HK17.out _ _ _ ?_; first | assumption | (refine bl_drew ?_; assumption))
                          | (refine HK16.out _ ?_; repeat (first | assumption | exact bl_refl _ | refine bl_drew ?_)))
                      clear hK K hHeld
                      have hHeld := hHeld2
                      clear hHeld2
                      try simp only [Act.put, List.setIfInBounds_toArray, List.set_cons_zero, List.set_cons_succ]
                      refine wpAnyH_take (i := 25) (oi := { dst := some 112, op := Op.indexAddr 22 (Operand.tmp 87) (Operand.tmp 89), type := 0, pos := "ref.go:38", after := _, guard := none }) (v := ?_) rfl (by kernel_rfl) (by kernel_rfl) (by kernel_rfl) (fun _ _ _ h => h) (Or.inl ⟨by rfl, ?_⟩) (by assumption) ?_
                      rotate_left
                      focus
                        intro w hSw
                        (try dsimp only at hSw)
                        first | (go_simp; done) | (go_simp; with_reducible rfl)
                      try simp only [Act.put, List.setIfInBounds_toArray, List.set_cons_zero, List.set_cons_succ]
                      refine wpAnyH_ready (rs := [26]) (by kernel_rfl) (by simp) ?_
                      refine AllReadyH.cons (o := { dst := none, op := Op.store 38 (Operand.tmp 112) (Operand.tmp 111), type := 0, pos := "ref.go:38", after := _, guard := none }) rfl (fun K hK => ?_) ?_
                      focus
                        go_simp
                        refine hK.out _ _ ?_ (fun hHeld2 => ?_)
                        focus
                          (try dsimp only)
                          (first
                            | (refine HK16.out _ ?_; first | exact bl_refl _ | exact bl_drew (bl_refl _) | assumption | (refine bl_drew ?_; assumption))
                            | (refine HK17.out _ _ _ ?_; first | assumption | (refine bl_drew ?_; assumption))
                            | (refine HK16.out _ ?_; repeat (first | assumption | exact bl_refl _ | refine bl_drew ?_)))
                        clear hK K hHeld
                        have hHeld := hHeld2
                        clear hHeld2
                        try simp only [Act.put, List.setIfInBounds_toArray, List.set_cons_zero, List.set_cons_succ]
                        refine wpAnyH_done (by kernel_rfl) ?_ _
                        refine NoPanic.normal ?_
                        go_wp2
                        have ho10 := own_below HV9.out hbz4
                        have hs1 := (World.ownsRow.stored ho10 (a0.length * 2) (.int .i64 cv.1)).1
                        have hs2 := (World.ownsRow.stored hs1 (a0.length * 2 + 1) (.int .i64 cv.2)).1
                        rw [HS2.out] at hs2
                        have hbs := bl_set (bl_set (bl_trans HB9.out hbz4) (p := ⟨g, a0.length * 2, none⟩) hg1 (.int .i64 cv.1)) (p := ⟨g, a0.length * 2 + 1, none⟩) hg1 (.int .i64 cv.2)
                        refine ⟨?_, by first | (simp [intOf]; done) | (simp [intOf]; omega)⟩
                        first
                          | exact FIN.out _ _ _ _ (by omega) (by simp) HST.out hs2 hbs
                          | exact FIN.out _ _ _ _ (by omega) (by simp) HST.out (World.ownsRow.drew hs2) (bl_drew hbs)
                      exact AllReadyH.nil
                    exact AllReadyH.nil
                  exact AllReadyH.nil
                exact AllReadyH.nil
        · obtain rfl : k = O.length := by omega
          have hU4 := HU.out
          rw [List.take_length, HU2.out] at hU4
          subst hU4
          obtain rfl : m = U.length := HM.out.symm
          have HO := hide (own_base hv hb1.size)
          clear hv HU HM hlt
          go_wp2
          go_ret
          exact ⟨_, rfl, bl_trans hb1 hbk, HO.out⟩
end Go.Proofs.Ytjkjgfgblfioeaa
