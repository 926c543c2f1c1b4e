/- Contract of the reference's Sort of edits: put in one by one, as sortE has it. No condition but short slices. (By genref6s.py.) -/
import Derived.Test.YtbaaciekjpadfaaSpanI
import Derived.Test.YtbaaciekjpadfaaEdL
import Derived.Deep.RegionHeld3
namespace Go.Proofs.Ytbaaciekjpadfaa
open Go.ChangeShapes Go.WideShapes Go.ChangeAt Go.RowKit
open SpanM EdM
attribute [local go_sem ↓] Go.wp_at_zero Go.wp_at_succ
attribute [local go_sem] later_cell later_frozen
def insK (s : Ed) (O : List Ed) (k : Nat) : List Ed := O.take k ++ [s] ++ O.drop k
theorem insK_eq (s : Ed) (O : List Ed) (k : Nat) (h : posB s O O.length = k) : insB s O = insK s O k := by
  unfold insB insK; rw [h, List.append_assoc]; rfl
def RInvE (l : List Ed) (w : World) (v i : Value) (wr : World) : Prop :=
  ∃ k : Nat, i = .int .i64 k ∧ k ≤ l.length ∧ wr.ownsRow w.heap.size 45 3 v k (flatE (sortE (l.take k))) ∧ Below w.heap.size w wr
set_option maxRecDepth 100000 in
set_option maxHeartbeats 16000000 in
theorem r6sort_any (v : Value) (l : List Ed) (w : World) (h : EdAt w v l) (hl : l.length ≤ 1000) :
    Calls Try.prog 23 #[v] w fun e w' => ∃ v', e = .returned v' ∧ Below w.heap.size w w' ∧ w'.ownsRow w.heap.size 45 3 v' l.length (flatE (sortE l)) := by
  obtain ⟨i0, hi0, hz0', hz1, hz2⟩ := info_parts info_ed
  obtain ⟨aA, cA, rfl⟩ := edat_len h
  have W0 := hide h
  clear h
  go_enter Try.func23, Try.ntmps23
  go_wp2
  go_loopw [3, 4] (fun v i wr => RInvE l w v i wr) (fun _ i _ => l.length - (intOf i).toNat)
  case atStart => exact ⟨0, rfl, Nat.zero_le _, ⟨rfl, .inl ⟨rfl, rfl⟩⟩, bl_refl w⟩
  case round =>
    obtain ⟨k, rfl, hk, hv, hbl⟩ := hrel
    by_cases hlt : k < l.length
    · have HA := hide (edat_below W0.out hbl)
      obtain ⟨b1, o1, c1, hv1, hc1, hm1, hlb1, hcell1⟩ := edat_some HA.out (by omega)
      injection hv1 with hv1 _ hv1c
      subst hv1 hv1c
      unfold maxLen at hm1
      obtain ⟨x1, x2, x3⟩ := hcell1 k hlt
      clear hcell1
      obtain ⟨s, hs⟩ : ∃ s, l[k] = s := ⟨_, rfl⟩
      rw [hs] at x1 x2 x3
      have hOl : (sortE (l.take k)).length = k := by rw [sortE_len, List.length_take]; omega
      have fin0 : sortE (l.take (k + 1)) = insB s (sortE (l.take k)) := by rw [List.take_succ_eq_append_getElem hlt, hs, sortE_snoc]
      obtain ⟨O, hO⟩ : ∃ O, sortE (l.take k) = O := ⟨_, rfl⟩
      rw [hO] at hv hOl fin0
      have HOL := hide hOl
      have fin1 : ∀ (W : World) (v' : Value) (kk : Nat), posB s O k = kk → W.ownsRow w.heap.size 45 3 v' (k + 1) (flatE (insK s O kk)) → Below w.heap.size w W → RInvE l w v' (.int .i64 ((k : Int) + 1)) W := fun W v' kk hp ho hbb =>
        ⟨k + 1, by go_num, by omega, by rw [fin0, insK_eq s O kk (by rw [HOL.out]; exact hp)]; exact ho, hbb⟩
      clear hO hOl
      have HF1 := hide fin1
      clear fin1 fin0 hs
      have hbw : w.heap.size ≤ wr.heap.size := hbl.size
      obtain ⟨aO, cO, rfl⟩ := own_slice hv
      have HV := hide hv
      clear hv
      go_wp2
      obtain ⟨wo, rfl⟩ : ∃ wo : World, wo = wr := ⟨_, rfl⟩
      go_loopw [5] (fun i wr => ∃ kk : Nat, i = .int .i64 kk ∧ kk ≤ k ∧ Hid (posB s O k = posB s O kk) ∧ Below wo.heap.size wo wr) (fun i _ => (intOf i).toNat)
      case atStart => exact ⟨k, rfl, Nat.le_refl _, hide rfl, bl_refl wo⟩
      case round =>
        obtain ⟨kk, rfl, hkk, HD, hbi⟩ := hrel
        have z1 := cell_later hbi x1
        have z2 := cell_later hbi x2
        have z3 := cell_later hbi x3
        rcases Nat.eq_zero_or_pos kk with hk0 | hk0
        · subst hk0
          have HF2 := hide (fun W v' => HF1.out W v' 0 HD.out)
          clear HD HF1 x1 x2 x3
          go_wp2
          go_quiet (fail)
          go_wp2
          have f1 : (wr.drewN nq).cell? ⟨b1, o1 + k * 3, none⟩ = some (.int .i64 s.1.1) := by first | assumption | go_simp
          have f2 : (wr.drewN nq).cell? ⟨b1, o1 + k * 3 + 1, none⟩ = some (.int .i64 s.1.2) := by first | assumption | go_simp
          have f3 : (wr.drewN nq).cell? ⟨b1, o1 + k * 3 + 2, none⟩ = some (.string s.2) := by first | assumption | go_simp
          have HVi := hide (own_below HV.out (bl_drewN hbi nq))
          have bli : Below w.heap.size w (wr.drewN nq) := bl_trans hbl (bl_drewN hbi nq)
          generalize wr.drewN nq = wi at *
          have hlt1 := World.block_lt_of_cell? wi _ f1
          have hncO : k ≤ cO := by
            rcases own_form HVi.out with ⟨h0, h1, _⟩ | ⟨g', c', hv', _, _, hnc, _⟩
            · omega
            · cases hv'; exact hnc
          generalize hK : ((0 : Nat) : Int) = K at *
          have hslo := fun (W : World) => run_slice_to (P := Try.prog) 22 45 i0 Try.underlying22 hi0 aO k cO (0) K hK (by omega) W
          have hshi := fun (W : World) => run_slice_from (P := Try.prog) 22 45 i0 Try.underlying22 hi0 aO k cO (0) K hK (by omega) W
          rw [hz1] at hshi
          have SLO := hide (own_front' (k := 0) HVi.out (by omega))
          have SHI := hide (own_from (k := 0) HVi.out (by omega))
          generalize (if cO = 0 then aO else (aO).map (·.add ((0) * 3))) = a2 at *
          have HONE1 := hide (show ∀ u ∈ (flatE O).take ((0) * 3), u.oneCell' = true from fun u hu => flatE_one O u (List.mem_of_mem_take hu))
          have HONE2 := hide (show ∀ u ∈ (flatE O).drop ((0) * 3), u.oneCell' = true from fun u hu => flatE_one O u (List.mem_of_mem_drop hu))
          have FIN := hide (show ∀ (W : World) (v' : Value), W.ownsRow wi.heap.size 45 3 v' (0 + (0) + 1 + (k - (0))) ([] ++ (flatE O).take ((0) * 3) ++ [.int .i64 s.1.1, .int .i64 s.1.2, .string s.2] ++ (flatE O).drop ((0) * 3)) → Below wi.heap.size wi W → RInvE l w v' (.int .i64 ((k : Int) + 1)) W from fun W v' ho hb => by
            refine HF2.out W v' ?_ (bl_trans bli hb)
            have e1 : flatE (insK s O (0)) = [] ++ (flatE O).take ((0) * 3) ++ [.int .i64 s.1.1, .int .i64 s.1.2, .string s.2] ++ (flatE O).drop ((0) * 3) := by
              unfold insK; rw [flatE_app, flatE_app, flatE_take, flatE_drop]; rfl
            rw [e1, show k + 1 = 0 + (0) + 1 + (k - (0)) by omega]
            exact own_base ho bli.size)
          have hn1000 : k ≤ 1000 := by omega
          have hBw : w.heap.size ≤ wi.heap.size := bli.size
          clear HF2 HVi hncO
          have HKEEP := hide (show ∀ W, Below wi.heap.size wi W → (fun w' => Below wi.heap.size wi w' ∧ w'.cell? ⟨b1, o1 + k * 3, none⟩ = some (.int .i64 s.1.1) ∧ w'.cell? ⟨b1, o1 + k * 3 + 1, none⟩ = some (.int .i64 s.1.2) ∧ w'.cell? ⟨b1, o1 + k * 3 + 2, none⟩ = some (.string s.2)) W from fun W h => ⟨h, cell_later h f1, cell_later h f2, cell_later h f3⟩)
          go_region_held3 (fun w' => Below wi.heap.size wi w' ∧ w'.cell? ⟨b1, o1 + k * 3, none⟩ = some (.int .i64 s.1.1) ∧ w'.cell? ⟨b1, o1 + k * 3 + 1, none⟩ = some (.int .i64 s.1.2) ∧ w'.cell? ⟨b1, o1 + k * 3 + 2, none⟩ = some (.string s.2))
            ((try go_split_ands
              refine HKEEP.out _ ?_
              repeat (first | assumption | exact bl_refl _ | refine bl_drew ?_ | refine bl_alloc ?_ _)))
            (first
              | (go_split_ands; refine step_src _ (by rfl) (.tmp 32) (.tmp 35) 22 (by rfl) wi.heap.size 45 i0 (.agg #[.int .i64 0, .int .i64 0, .string ⟨#[]⟩]) 3 32 Try.underlying22 hi0 hz0' hz1 hz2 rfl (by decide) (.slice (some ⟨_, 0, none⟩) 0 0) 0 [] (by rfl) (own_at (by (try refine heap_drew ?_); first | exact heap_new (by simp) | exact heap_old (heap_new (by simp))) (by first | (simp; done) | (simp; omega))) aO (0) cO ((flatE O).take ((0) * 3)) (by rfl) (src_below SLO.out (by assumption)) HONE1.out (by omega) (by decide) (by first | (simp; done) | (simp; omega)) ?_; intro v8 w8 hv8 hg8; have B8 := bl_grown (a := wi) (by assumption) hg8 (fun k hk => by cases hk; first | (simp; done) | (simp; omega)))
              | (go_split_ands; refine step_src _ (by rfl) (.tmp 42) (.tmp 45) 22 (by rfl) wi.heap.size 45 i0 (.agg #[.int .i64 0, .int .i64 0, .string ⟨#[]⟩]) 3 32 Try.underlying22 hi0 hz0' hz1 hz2 rfl (by decide) v9 (0 + (0) + 1) ([] ++ (flatE O).take ((0) * 3) ++ [.int .i64 s.1.1, .int .i64 s.1.2, .string s.2]) (by rfl) hv9 a2 (k - (0)) (cO - (0)) ((flatE O).drop ((0) * 3)) (by rfl) (src_below SHI.out (by assumption)) HONE2.out (by omega) (by decide) (by have := B9.size; omega) ?_; intro va wa hva hga; have Ba := bl_grown (a := wi) (by assumption) hga (fun k hk => (hv9.lt k hk).1))
              | (go_split_ands; refine step_src _ (by rfl) (.tmp 36) (.tmp 41) 22 (by rfl) wi.heap.size 45 i0 (.agg #[.int .i64 0, .int .i64 0, .string ⟨#[]⟩]) 3 32 Try.underlying22 hi0 hz0' hz1 hz2 rfl (by decide) v8 (0 + (0)) ([] ++ (flatE O).take ((0) * 3)) (by rfl) (by first | exact hv8 | exact own_below hv8 (bl_drew (bl_alloc (bl_refl _) _)) | exact own_below hv8 (bl_alloc (bl_refl _) _)) (some ⟨_, 0, none⟩) 1 1 [.int .i64 s.1.1, .int .i64 s.1.2, .string s.2] (by rfl) (by first | exact src_block (cs := #[.int .i64 s.1.1, .int .i64 s.1.2, .string s.2]) (by (try refine heap_drew ?_); first | exact heap_new (by simp) | exact heap_old (heap_new (by simp))) rfl | exact src_block (cs := #[.int .i64 s.1.1, .int .i64 s.1.2, .string s.2]) (heap_kept hg8 (by (try refine heap_drew ?_); first | exact heap_new (by simp) | exact heap_old (heap_new (by simp))) (by simp [Value.ownBlock])) rfl) (by simp [Value.oneCell']) (by omega) (by decide) (by have := B8.size; simp; omega) ?_; intro v9 w9 hv9 hg9; have B9 := bl_grown (a := wi) (by assumption) hg9 (fun k hk => (hv8.lt k hk).1))
              | fail)
          all_goals
            clear hv8 hv9 hg8 hg9 hga B8 B9 hslo hshi
            go_wp2
            refine ⟨?_, by first | (simp [intOf]; done) | (simp [intOf]; omega)⟩
            exact FIN.out _ _ hva Ba
        · obtain ⟨j, rfl⟩ : ∃ j, kk = j + 1 := ⟨kk - 1, by omega⟩
          have hjO : j < O.length := by have := HOL.out; omega
          rcases own_form HV.out with ⟨h0, h1, _⟩ | ⟨g, cg, hvv, hg1, hg2, hg3, hg4, _⟩
          · omega
          injection hvv with hq1 _ hq2
          subst hq1 hq2
          unfold maxLen at hg4
          have hfa := flatE_at O j hjO
          have hvi := own_below HV.out hbi
          have y1 : wr.cell? ⟨g, j * 3, none⟩ = some (.int .i64 O[j].1.1) := by rw [World.ownsRow.cellAt hvi (j * 3) (by omega)]; exact hfa.1
          have y2 : wr.cell? ⟨g, j * 3 + 1, none⟩ = some (.int .i64 O[j].1.2) := by rw [World.ownsRow.cellAt hvi (j * 3 + 1) (by omega)]; exact hfa.2.1
          have hlb2 : b1 < wr.heap.size := World.block_lt_of_cell? wr _ z1
          have hlg2 : g < wr.heap.size := World.block_lt_of_cell? wr _ y1
          have hj0 : decide ((0 : Int) < (j : Int) + 1) = true := by first | (simp; done) | (simp; omega)
          have hget : O[j]! = O[j] := getElem!_pos O j hjO
          have hdn : less s.1 O[j].1 = true → posB s O k = posB s O j := fun hh => by
            rw [HD.out]
            show (if lessE s O[j]! then posB s O j else j + 1) = _
            rw [hget, if_pos (show lessE s O[j] = true from hh)]
          have htl : less s.1 O[j].1 = false → posB s O k = j + 1 := fun hh => by
            rw [HD.out]
            show (if lessE s O[j]! then posB s O j else j + 1) = _
            rw [hget, if_neg (by show ¬ (less s.1 O[j].1 = true); rw [hh]; decide)]
          obtain ⟨r, hr⟩ : ∃ r, less s.1 O[j].1 = r := ⟨_, rfl⟩
          rw [hr] at hdn htl
          have HR := hide hr
          have HDN := hide hdn
          have HTL := hide htl
          clear hfa hvi hget hdn htl hr HD x1 x2 x3
          obtain ⟨t, ht⟩ : ∃ t, O[j] = t := ⟨_, rfl⟩
          rw [ht] at y1 y2 HR
          clear ht
          go_wp2
          refine wp_region_later (by kernel_rfl) (by kernel_rfl) ?_
          repeat (go_big_quiet_step (first | (go_at_call 43; exact later_call (lesse_any s.1 t.1 r _ HR.out)) | exact rfl))
          refine wpQuiet_nil ?_
          rintro w9 ⟨⟨_, hb9⟩, rfl⟩
          have hbi9 := bl_trans hbi hb9
          have u1 := cell_later hb9 z1
          have u2 := cell_later hb9 z2
          have u3 := cell_later hb9 z3
          clear z1 z2 z3 y1 y2
          cases r
          · have HF2 := hide (fun W v' => HF1.out W v' (j + 1) (HTL.out rfl))
            clear HF1 HTL HDN HR
            go_wp2
            have f1 : (w9).cell? ⟨b1, o1 + k * 3, none⟩ = some (.int .i64 s.1.1) := by first | assumption | go_simp
            have f2 : (w9).cell? ⟨b1, o1 + k * 3 + 1, none⟩ = some (.int .i64 s.1.2) := by first | assumption | go_simp
            have f3 : (w9).cell? ⟨b1, o1 + k * 3 + 2, none⟩ = some (.string s.2) := by first | assumption | go_simp
            have HVi := hide (own_below HV.out (hbi9))
            have bli : Below w.heap.size w (w9) := bl_trans hbl (hbi9)
            generalize w9 = wi at *
            have hlt1 := World.block_lt_of_cell? wi _ f1
            have hncO : k ≤ cO := by
              rcases own_form HVi.out with ⟨h0, h1, _⟩ | ⟨g', c', hv', _, _, hnc, _⟩
              · omega
              · cases hv'; exact hnc
            generalize hK0 : ((j : Int) + 1) = K at *
            have hK : ((j + 1 : Nat) : Int) = K := by omega
            have hslo := fun (W : World) => run_slice_to (P := Try.prog) 22 45 i0 Try.underlying22 hi0 (some (⟨g, 0, none⟩ : Addr)) k cO (j + 1) K hK (by omega) W
            have hshi := fun (W : World) => run_slice_from (P := Try.prog) 22 45 i0 Try.underlying22 hi0 (some (⟨g, 0, none⟩ : Addr)) k cO (j + 1) K hK (by omega) W
            rw [hz1] at hshi
            have SLO := hide (own_front' (k := j + 1) HVi.out (by omega))
            have SHI := hide (own_from (k := j + 1) HVi.out (by omega))
            generalize (if cO = j + 1 then (some (⟨g, 0, none⟩ : Addr)) else ((some (⟨g, 0, none⟩ : Addr))).map (·.add ((j + 1) * 3))) = a2 at *
            have HONE1 := hide (show ∀ u ∈ (flatE O).take ((j + 1) * 3), u.oneCell' = true from fun u hu => flatE_one O u (List.mem_of_mem_take hu))
            have HONE2 := hide (show ∀ u ∈ (flatE O).drop ((j + 1) * 3), u.oneCell' = true from fun u hu => flatE_one O u (List.mem_of_mem_drop hu))
            have FIN := hide (show ∀ (W : World) (v' : Value), W.ownsRow wi.heap.size 45 3 v' (0 + (j + 1) + 1 + (k - (j + 1))) ([] ++ (flatE O).take ((j + 1) * 3) ++ [.int .i64 s.1.1, .int .i64 s.1.2, .string s.2] ++ (flatE O).drop ((j + 1) * 3)) → Below wi.heap.size wi W → RInvE l w v' (.int .i64 ((k : Int) + 1)) W from fun W v' ho hb => by
              refine HF2.out W v' ?_ (bl_trans bli hb)
              have e1 : flatE (insK s O (j + 1)) = [] ++ (flatE O).take ((j + 1) * 3) ++ [.int .i64 s.1.1, .int .i64 s.1.2, .string s.2] ++ (flatE O).drop ((j + 1) * 3) := by
                unfold insK; rw [flatE_app, flatE_app, flatE_take, flatE_drop]; rfl
              rw [e1, show k + 1 = 0 + (j + 1) + 1 + (k - (j + 1)) by omega]
              exact own_base ho bli.size)
            have hn1000 : k ≤ 1000 := by omega
            have hBw : w.heap.size ≤ wi.heap.size := bli.size
            clear HF2 HVi hncO
            have HKEEP := hide (show ∀ W, Below wi.heap.size wi W → (fun w' => Below wi.heap.size wi w' ∧ w'.cell? ⟨b1, o1 + k * 3, none⟩ = some (.int .i64 s.1.1) ∧ w'.cell? ⟨b1, o1 + k * 3 + 1, none⟩ = some (.int .i64 s.1.2) ∧ w'.cell? ⟨b1, o1 + k * 3 + 2, none⟩ = some (.string s.2)) W from fun W h => ⟨h, cell_later h f1, cell_later h f2, cell_later h f3⟩)
            go_region_held3 (fun w' => Below wi.heap.size wi w' ∧ w'.cell? ⟨b1, o1 + k * 3, none⟩ = some (.int .i64 s.1.1) ∧ w'.cell? ⟨b1, o1 + k * 3 + 1, none⟩ = some (.int .i64 s.1.2) ∧ w'.cell? ⟨b1, o1 + k * 3 + 2, none⟩ = some (.string s.2))
              ((try go_split_ands
                refine HKEEP.out _ ?_
                repeat (first | assumption | exact bl_refl _ | refine bl_drew ?_ | refine bl_alloc ?_ _)))
              (first
                | (go_split_ands; refine step_src _ (by rfl) (.tmp 32) (.tmp 35) 22 (by rfl) wi.heap.size 45 i0 (.agg #[.int .i64 0, .int .i64 0, .string ⟨#[]⟩]) 3 32 Try.underlying22 hi0 hz0' hz1 hz2 rfl (by decide) (.slice (some ⟨_, 0, none⟩) 0 0) 0 [] (by rfl) (own_at (by (try refine heap_drew ?_); first | exact heap_new (by simp) | exact heap_old (heap_new (by simp))) (by first | (simp; done) | (simp; omega))) (some (⟨g, 0, none⟩ : Addr)) (j + 1) cO ((flatE O).take ((j + 1) * 3)) (by rfl) (src_below SLO.out (by assumption)) HONE1.out (by omega) (by decide) (by first | (simp; done) | (simp; omega)) ?_; intro v8 w8 hv8 hg8; have B8 := bl_grown (a := wi) (by assumption) hg8 (fun k hk => by cases hk; first | (simp; done) | (simp; omega)))
                | (go_split_ands; refine step_src _ (by rfl) (.tmp 42) (.tmp 45) 22 (by rfl) wi.heap.size 45 i0 (.agg #[.int .i64 0, .int .i64 0, .string ⟨#[]⟩]) 3 32 Try.underlying22 hi0 hz0' hz1 hz2 rfl (by decide) v9 (0 + (j + 1) + 1) ([] ++ (flatE O).take ((j + 1) * 3) ++ [.int .i64 s.1.1, .int .i64 s.1.2, .string s.2]) (by rfl) hv9 a2 (k - (j + 1)) (cO - (j + 1)) ((flatE O).drop ((j + 1) * 3)) (by rfl) (src_below SHI.out (by assumption)) HONE2.out (by omega) (by decide) (by have := B9.size; omega) ?_; intro va wa hva hga; have Ba := bl_grown (a := wi) (by assumption) hga (fun k hk => (hv9.lt k hk).1))
                | (go_split_ands; refine step_src _ (by rfl) (.tmp 36) (.tmp 41) 22 (by rfl) wi.heap.size 45 i0 (.agg #[.int .i64 0, .int .i64 0, .string ⟨#[]⟩]) 3 32 Try.underlying22 hi0 hz0' hz1 hz2 rfl (by decide) v8 (0 + (j + 1)) ([] ++ (flatE O).take ((j + 1) * 3)) (by rfl) (by first | exact hv8 | exact own_below hv8 (bl_drew (bl_alloc (bl_refl _) _)) | exact own_below hv8 (bl_alloc (bl_refl _) _)) (some ⟨_, 0, none⟩) 1 1 [.int .i64 s.1.1, .int .i64 s.1.2, .string s.2] (by rfl) (by first | exact src_block (cs := #[.int .i64 s.1.1, .int .i64 s.1.2, .string s.2]) (by (try refine heap_drew ?_); first | exact heap_new (by simp) | exact heap_old (heap_new (by simp))) rfl | exact src_block (cs := #[.int .i64 s.1.1, .int .i64 s.1.2, .string s.2]) (heap_kept hg8 (by (try refine heap_drew ?_); first | exact heap_new (by simp) | exact heap_old (heap_new (by simp))) (by simp [Value.ownBlock])) rfl) (by simp [Value.oneCell']) (by omega) (by decide) (by have := B8.size; simp; omega) ?_; intro v9 w9 hv9 hg9; have B9 := bl_grown (a := wi) (by assumption) hg9 (fun k hk => (hv8.lt k hk).1))
                | fail)
            all_goals
              clear hv8 hv9 hg8 hg9 hga B8 B9 hslo hshi
              go_wp2
              refine ⟨?_, by first | (simp [intOf]; done) | (simp [intOf]; omega)⟩
              exact FIN.out _ _ hva Ba
          · have HD2 := hide (HDN.out rfl)
            clear HF1 HTL HDN HR
            go_wp2
            refine ⟨?_, by first | (simp [intOf]; done) | (simp [intOf]; omega)⟩
            first
              | exact ⟨j, by go_num, by omega, HD2, hbi9⟩
              | ((repeat apply Exists.intro); exact ⟨⟨j, by go_num, by omega, HD2, hbi9⟩, rfl⟩)
    · obtain rfl : k = l.length := by omega
      rw [List.take_length] at hv
      have HV := hide hv
      clear hv hlt
      go_wp2
      go_ret
      exact ⟨_, rfl, hbl, HV.out⟩
end Go.Proofs.Ytbaaciekjpadfaa
