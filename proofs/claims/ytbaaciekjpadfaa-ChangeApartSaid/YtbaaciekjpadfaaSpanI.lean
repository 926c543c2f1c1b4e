/- Contract of the reference's Sort: stretches in rising order, put in one by one. No condition but short slices. -/
import Derived.Test.YtbaaciekjpadfaaSpanH
import Derived.Test.YtbaaciekjpadfaaApp
import Derived.Deep.RegionHeld3
namespace Go.Proofs.Ytbaaciekjpadfaa
open Go.ChangeShapes Go.WideShapes Go.ChangeAt Go.RowKit
open SpanM
attribute [local go_sem ↓] Go.wp_at_zero Go.wp_at_succ
attribute [local go_sem] later_cell later_frozen
theorem lesse_any (a b : Sp) (r : Bool) (w : World) (h : less a b = r) : Calls Try.prog 43 #[.agg #[.int .i64 a.1, .int .i64 a.2], .agg #[.int .i64 b.1, .int .i64 b.2]] w fun e w' => e = .returned (.bool r) ∧ Below w.heap.size w w' := by
  subst h; exact less_any a b w
def insF (s : Sp) (O : List Sp) (k : Nat) : List Sp := O.take k ++ [s] ++ O.drop k
theorem insF_perm (s : Sp) (O : List Sp) (k : Nat) : (insF s O k).Perm (O ++ [s]) := by
  unfold insF
  have h1 : (O.take k ++ [s] ++ O.drop k).Perm (O.take k ++ (O.drop k ++ [s])) := by
    rw [List.append_assoc]
    exact List.Perm.append_left _ List.perm_append_comm
  rw [← List.append_assoc, List.take_append_drop] at h1
  exact h1
theorem not_less_le {a b : Sp} (h : less a b = false) : le b a := by
  rw [less_d] at h; simp at h; unfold le; omega
theorem less_le {a b : Sp} (h : less a b = true) : le a b := by
  rw [less_d] at h; simp at h; unfold le; omega
theorem le_trans' {a b c : Sp} (h : le a b) (g : le b c) : le a c := by unfold le at *; omega
theorem insF_sorted (s : Sp) (O : List Sp) (k : Nat) (hs : Sorted O) (hd : ∀ x ∈ O.drop k, less s x = true) (ht : ∀ x ∈ O.take k, le x s) : Sorted (insF s O k) := by
  unfold insF Sorted
  have hO := hs
  unfold Sorted at hO
  rw [← List.take_append_drop k O] at hO
  obtain ⟨h1, h2, h3⟩ := List.pairwise_append.1 hO
  refine List.pairwise_append.2 ⟨List.pairwise_append.2 ⟨h1, List.pairwise_singleton _ _, fun a ha b hb => ?_⟩, h2, fun a ha b hb => ?_⟩
  · rw [List.mem_singleton] at hb; subst hb; exact ht a ha
  · rcases List.mem_append.1 ha with ha | ha
    · exact h3 a ha b hb
    · rw [List.mem_singleton] at ha; subst ha; exact less_le (hd b hb)
theorem take_le (s : Sp) (O : List Sp) (j : Nat) (hj : j < O.length) (hs : Sorted O) (h : less s O[j] = false) : ∀ x ∈ O.take (j + 1), le x s := by
  intro x hx
  have h1 := not_less_le h
  obtain ⟨i, hi, rfl⟩ := List.getElem_of_mem hx
  rw [List.getElem_take]
  have hi' : i < j + 1 := by simp at hi; omega
  by_cases e : i = j
  · subst e; exact h1
  · exact le_trans' ((List.pairwise_iff_getElem.1 hs) i j (by omega) hj (by omega)) h1
theorem own_posS {w : World} {base : Nat} {e : TypeId} {size : Nat} {v : Value} {n : Nat} {xs : List Value} (h : w.ownsRow base e size v n xs) (hn : 0 < n) :
    ∃ g c, v = .slice (some ⟨g, 0, none⟩) n c ∧ base ≤ g ∧ g < w.heap.size ∧ n ≤ c ∧ c ≤ maxLen := by
  rcases own_form h with ⟨_, h0, _⟩ | ⟨g, c, rfl, h1, h2, h3, h4, _⟩
  · omega
  · exact ⟨g, c, rfl, h1, h2, h3, h4⟩
theorem insF_len (s : Sp) (O : List Sp) (k : Nat) : (insF s O k).length = O.length + 1 := by
  have := (insF_perm s O k).length_eq; simpa using this
theorem flat_take (l : List Sp) (k : Nat) : (flat l).take (k * 2) = flat (l.take k) := by
  induction l generalizing k with
  | nil => simp [flat]
  | cons a r ih =>
    cases k with
    | zero => simp [flat]
    | succ k =>
      have e : ∀ (b : Sp) (q : List Sp), flat (b :: q) = .int .i64 b.1 :: .int .i64 b.2 :: flat q := fun _ _ => rfl
      rw [show (k + 1) * 2 = k * 2 + 1 + 1 by omega, e, List.take_succ_cons, List.take_succ_cons, ih k, List.take_succ_cons, e]
theorem flat_drop (l : List Sp) (k : Nat) : (flat l).drop (k * 2) = flat (l.drop k) := by
  have h1 := flat_app (l.take k) (l.drop k)
  rw [List.take_append_drop] at h1
  have h2 := flat_take l k
  by_cases hk : k ≤ l.length
  · rw [h1, List.drop_left' (by rw [flat_len, List.length_take]; omega)]
  · rw [List.drop_of_length_le (by rw [flat_len]; omega), List.drop_of_length_le (by omega)]; rfl
def RInv (l : List Sp) (w : World) (v i : Value) (wr : World) : Prop :=
  ∃ (k : Nat) (O : List Sp), i = .int .i64 k ∧ k ≤ l.length ∧ Hid (O.Perm (l.take k)) ∧ Hid (Sorted O) ∧ Hid (O.length = k) ∧ wr.ownsRow w.heap.size 43 2 v k (flat O) ∧ Below w.heap.size w wr
set_option maxRecDepth 100000 in
set_option maxHeartbeats 16000000 in
theorem rsort_any (v : Value) (l : List Sp) (w : World) (h : SpAt w v l) (hl : l.length ≤ 1000) :
    Calls Try.prog 45 #[v] w fun e w' => ∃ v', e = .returned v' ∧ Below w.heap.size w w' ∧ w'.ownsRow w.heap.size 43 2 v' l.length (flat (sortS l)) := by
  obtain ⟨i0, hi0, hz0', hz1, hz2⟩ := info_parts info_sp
  obtain ⟨aA, cA, rfl⟩ := spat_len h
  have W0 := hide h
  clear h
  obtain ⟨S, hS⟩ : ∃ S, sortS l = S := ⟨_, rfl⟩
  rw [hS]
  have HSS := hide hS
  clear hS
  go_enter Try.func45, Try.ntmps45
  go_wp2
  go_loopw [3, 4] (fun v i wr => RInv l w v i wr) (fun _ i _ => l.length - (intOf i).toNat)
  case atStart => exact ⟨0, [], rfl, Nat.zero_le _, hide (by simp), hide .nil, hide rfl, ⟨rfl, .inl ⟨rfl, rfl⟩⟩, bl_refl w⟩
  case round =>
    obtain ⟨k, O, rfl, hk, HP, HS, HOL, hv, hbl⟩ := hrel
    by_cases hlt : k < l.length
    · have HA := hide (spat_below W0.out hbl)
      obtain ⟨b1, o1, c1, hv1, hc1, hm1, hlb1, hcell1⟩ := spat_some HA.out (by omega)
      injection hv1 with hv1 _ hv1c
      subst hv1 hv1c
      unfold maxLen at hm1
      obtain ⟨x1, x2⟩ := hcell1 k hlt
      clear hcell1
      obtain ⟨s, hs⟩ : ∃ s, l[k] = s := ⟨_, rfl⟩
      rw [hs] at x1 x2
      have fin1 : ∀ (W : World) (v' : Value) (kk : Nat), (∀ x ∈ O.drop kk, less s x = true) → (∀ x ∈ O.take kk, le x s) → W.ownsRow w.heap.size 43 2 v' (k + 1) (flat (insF s O kk)) → Below w.heap.size w W → RInv l w v' (.int .i64 ((k : Int) + 1)) W := fun W v' kk hd ht ho hbb =>
        ⟨k + 1, insF s O kk, by go_num, by omega, hide (by
          rw [List.take_succ_eq_append_getElem hlt, hs]
          exact (insF_perm s O kk).trans (HP.out.append_right _)), hide (insF_sorted s O kk HS.out hd ht), hide (by rw [insF_len, HOL.out]), ho, hbb⟩
      have HF1 := hide fin1
      clear fin1 hs HP
      have hbw : w.heap.size ≤ wr.heap.size := hbl.size
      obtain ⟨aO, cO, rfl⟩ := own_slice hv
      have HV := hide hv
      clear hv
      go_wp2
      obtain ⟨wo, rfl⟩ : ∃ wo : World, wo = wr := ⟨_, rfl⟩
      go_loopw [5] (fun i wr => ∃ kk : Nat, i = .int .i64 kk ∧ kk ≤ k ∧ Hid (∀ x ∈ O.drop kk, less s x = true) ∧ Below wo.heap.size wo wr) (fun i _ => (intOf i).toNat)
      case atStart => exact ⟨k, rfl, Nat.le_refl _, hide (by rw [List.drop_of_length_le (by rw [HOL.out]; exact Nat.le_refl _)]; simp), bl_refl wo⟩
      case round =>
        obtain ⟨kk, rfl, hkk, HD, hbi⟩ := hrel
        have z1 := cell_later hbi x1
        have z2 := cell_later hbi x2
        rcases Nat.eq_zero_or_pos kk with hk0 | hk0
        · subst hk0
          have HF2 := hide (fun W v' => HF1.out W v' 0 (by simpa using HD.out) (by simp))
          clear HD HF1 x1 x2
          go_wp2
          go_quiet (fail)
          go_wp2
          have f1 : (wr.drewN nq).cell? ⟨b1, o1 + k * 2, none⟩ = some (.int .i64 s.1) := by first | assumption | go_simp
          have f2 : (wr.drewN nq).cell? ⟨b1, o1 + k * 2 + 1, none⟩ = some (.int .i64 s.2) := by first | assumption | go_simp
          have HVi := hide (own_below HV.out (bl_drewN hbi nq))
          have bli : Below w.heap.size w (wr.drewN nq) := bl_trans hbl (bl_drewN hbi nq)
          generalize wr.drewN nq = wi at *
          have hlt1 := World.block_lt_of_cell? wi _ f1
          have hncO : k ≤ cO := by
            rcases own_form HVi.out with ⟨h0, h1, _⟩ | ⟨g', c', hv', _, _, hnc, _⟩
            · omega
            · cases hv'; exact hnc
          generalize hK : ((0 : Nat) : Int) = K at *
          have hslo := fun (W : World) => run_slice_to (P := Try.prog) 53 43 i0 Try.underlying53 hi0 aO k cO (0) K hK (by omega) W
          have hshi := fun (W : World) => run_slice_from (P := Try.prog) 53 43 i0 Try.underlying53 hi0 aO k cO (0) K hK (by omega) W
          rw [hz1] at hshi
          have SLO := hide (own_front' (k := 0) HVi.out (by omega))
          have SHI := hide (own_from (k := 0) HVi.out (by omega))
          generalize (if cO = 0 then aO else (aO).map (·.add ((0) * 2))) = a2 at *
          have HONE1 := hide (show ∀ u ∈ (flat O).take ((0) * 2), u.oneCell' = true from fun u hu => flat_one O u (List.mem_of_mem_take hu))
          have HONE2 := hide (show ∀ u ∈ (flat O).drop ((0) * 2), u.oneCell' = true from fun u hu => flat_one O u (List.mem_of_mem_drop hu))
          have FIN := hide (show ∀ (W : World) (v' : Value), W.ownsRow wi.heap.size 43 2 v' (0 + (0) + 1 + (k - (0))) ([] ++ (flat O).take ((0) * 2) ++ [.int .i64 s.1, .int .i64 s.2] ++ (flat O).drop ((0) * 2)) → Below wi.heap.size wi W → RInv l w v' (.int .i64 ((k : Int) + 1)) W from fun W v' ho hb => by
            refine HF2.out W v' ?_ (bl_trans bli hb)
            have e1 : flat (insF s O (0)) = [] ++ (flat O).take ((0) * 2) ++ [.int .i64 s.1, .int .i64 s.2] ++ (flat O).drop ((0) * 2) := by
              unfold insF; rw [flat_app, flat_app, flat_take, flat_drop]; rfl
            rw [e1, show k + 1 = 0 + (0) + 1 + (k - (0)) by omega]
            exact own_base ho bli.size)
          have hn1000 : k ≤ 1000 := by omega
          have hBw : w.heap.size ≤ wi.heap.size := bli.size
          clear HF2 HVi hncO
          have HKEEP := hide (show ∀ W, Below wi.heap.size wi W → (fun w' => Below wi.heap.size wi w' ∧ w'.cell? ⟨b1, o1 + k * 2, none⟩ = some (.int .i64 s.1) ∧ w'.cell? ⟨b1, o1 + k * 2 + 1, none⟩ = some (.int .i64 s.2)) W from fun W h => ⟨h, cell_later h f1, cell_later h f2⟩)
          go_region_held3 (fun w' => Below wi.heap.size wi w' ∧ w'.cell? ⟨b1, o1 + k * 2, none⟩ = some (.int .i64 s.1) ∧ w'.cell? ⟨b1, o1 + k * 2 + 1, none⟩ = some (.int .i64 s.2))
            ((try go_split_ands
              refine HKEEP.out _ ?_
              repeat (first | assumption | exact bl_refl _ | refine bl_drew ?_ | refine bl_alloc ?_ _)))
            (first
              | (go_split_ands; refine step_src _ (by rfl) (.tmp 30) (.tmp 33) 53 (by rfl) wi.heap.size 43 i0 (.agg #[.int .i64 0, .int .i64 0]) 2 16 Try.underlying53 hi0 hz0' hz1 hz2 rfl (by decide) (.slice (some ⟨_, 0, none⟩) 0 0) 0 [] (by rfl) (own_at (by (try refine heap_drew ?_); first | exact heap_new (by simp) | exact heap_old (heap_new (by simp))) (by first | (simp; done) | (simp; omega))) aO (0) cO ((flat O).take ((0) * 2)) (by rfl) (src_below SLO.out (by assumption)) HONE1.out (by omega) (by decide) (by first | (simp; done) | (simp; omega)) ?_; intro v8 w8 hv8 hg8; have B8 := bl_grown (a := wi) (by assumption) hg8 (fun k hk => by cases hk; first | (simp; done) | (simp; omega)))
              | (go_split_ands; refine step_src _ (by rfl) (.tmp 40) (.tmp 43) 53 (by rfl) wi.heap.size 43 i0 (.agg #[.int .i64 0, .int .i64 0]) 2 16 Try.underlying53 hi0 hz0' hz1 hz2 rfl (by decide) v9 (0 + (0) + 1) ([] ++ (flat O).take ((0) * 2) ++ [.int .i64 s.1, .int .i64 s.2]) (by rfl) hv9 a2 (k - (0)) (cO - (0)) ((flat O).drop ((0) * 2)) (by rfl) (src_below SHI.out (by assumption)) HONE2.out (by omega) (by decide) (by have := B9.size; omega) ?_; intro va wa hva hga; have Ba := bl_grown (a := wi) (by assumption) hga (fun k hk => (hv9.lt k hk).1))
              | (go_split_ands; refine step_src _ (by rfl) (.tmp 34) (.tmp 39) 53 (by rfl) wi.heap.size 43 i0 (.agg #[.int .i64 0, .int .i64 0]) 2 16 Try.underlying53 hi0 hz0' hz1 hz2 rfl (by decide) v8 (0 + (0)) ([] ++ (flat O).take ((0) * 2)) (by rfl) (by first | exact hv8 | exact own_below hv8 (bl_drew (bl_alloc (bl_refl _) _)) | exact own_below hv8 (bl_alloc (bl_refl _) _)) (some ⟨_, 0, none⟩) 1 1 [.int .i64 s.1, .int .i64 s.2] (by rfl) (by first | exact src_block (cs := #[.int .i64 s.1, .int .i64 s.2]) (by (try refine heap_drew ?_); first | exact heap_new (by simp) | exact heap_old (heap_new (by simp))) rfl | exact src_block (cs := #[.int .i64 s.1, .int .i64 s.2]) (heap_kept hg8 (by (try refine heap_drew ?_); first | exact heap_new (by simp) | exact heap_old (heap_new (by simp))) (by simp [Value.ownBlock])) rfl) (by simp [Value.oneCell']) (by omega) (by decide) (by have := B8.size; simp; omega) ?_; intro v9 w9 hv9 hg9; have B9 := bl_grown (a := wi) (by assumption) hg9 (fun k hk => (hv8.lt k hk).1))
              | fail)
          all_goals
            clear hv8 hv9 hg8 hg9 hga B8 B9 hslo hshi
            go_wp2
            refine ⟨?_, by first | (simp [intOf]; done) | (simp [intOf]; omega)⟩
            exact FIN.out _ _ hva Ba
        · obtain ⟨j, rfl⟩ : ∃ j, kk = j + 1 := ⟨kk - 1, by omega⟩
          have hjO : j < O.length := by have := HOL.out; omega
          rcases own_form HV.out with ⟨h0, h1, _⟩ | ⟨g, cg, hvv, hg1, hg2, hg3, hg4, _⟩
          · omega
          injection hvv with hq1 _ hq2
          subst hq1 hq2
          unfold maxLen at hg4
          have hfa := flat_at O j hjO
          have hvi := own_below HV.out hbi
          have y1 : wr.cell? ⟨g, j * 2, none⟩ = some (.int .i64 O[j].1) := by rw [World.ownsRow.cellAt hvi (j * 2) (by omega)]; exact hfa.1
          have y2 : wr.cell? ⟨g, j * 2 + 1, none⟩ = some (.int .i64 O[j].2) := by rw [World.ownsRow.cellAt hvi (j * 2 + 1) (by omega)]; exact hfa.2
          have hlb2 : b1 < wr.heap.size := World.block_lt_of_cell? wr _ z1
          have hlg2 : g < wr.heap.size := World.block_lt_of_cell? wr _ y1
          have hj0 : decide ((0 : Int) < (j : Int) + 1) = true := by first | (simp; done) | (simp; omega)
          have hdn : less s O[j] = true → ∀ x ∈ O.drop j, less s x = true := fun hh x hx => by
            rw [List.drop_eq_getElem_cons hjO] at hx
            rcases List.mem_cons.1 hx with rfl | hx
            · exact hh
            · exact HD.out x hx
          have htl := take_le s O j hjO HS.out
          obtain ⟨r, hr⟩ : ∃ r, less s O[j] = r := ⟨_, rfl⟩
          rw [hr] at hdn htl
          have HR := hide hr
          have HDN := hide hdn
          have HTL := hide htl
          have HHD := HD
          clear hfa hvi hdn htl hr HD x1 x2
          obtain ⟨t, ht⟩ : ∃ t, O[j] = t := ⟨_, rfl⟩
          rw [ht] at y1 y2 HR
          clear ht
          go_wp2
          refine wp_region_later (by kernel_rfl) (by kernel_rfl) ?_
          repeat (go_big_quiet_step (first | (go_at_call 43; exact later_call (lesse_any s t r _ HR.out)) | exact rfl))
          refine wpQuiet_nil ?_
          rintro w9 ⟨⟨_, hb9⟩, rfl⟩
          have hbi9 := bl_trans hbi hb9
          have u1 := cell_later hb9 z1
          have u2 := cell_later hb9 z2
          clear z1 z2 y1 y2
          cases r
          · have HF2 := hide (fun W v' => HF1.out W v' (j + 1) HHD.out (HTL.out rfl))
            clear HF1 HHD HTL HDN HR
            go_wp2
            have f1 : (w9).cell? ⟨b1, o1 + k * 2, none⟩ = some (.int .i64 s.1) := by first | assumption | go_simp
            have f2 : (w9).cell? ⟨b1, o1 + k * 2 + 1, none⟩ = some (.int .i64 s.2) := by first | assumption | go_simp
            have HVi := hide (own_below HV.out (hbi9))
            have bli : Below w.heap.size w (w9) := bl_trans hbl (hbi9)
            generalize w9 = wi at *
            have hlt1 := World.block_lt_of_cell? wi _ f1
            have hncO : k ≤ cO := by
              rcases own_form HVi.out with ⟨h0, h1, _⟩ | ⟨g', c', hv', _, _, hnc, _⟩
              · omega
              · cases hv'; exact hnc
            generalize hK0 : ((j : Int) + 1) = K at *
            have hK : ((j + 1 : Nat) : Int) = K := by omega
            have hslo := fun (W : World) => run_slice_to (P := Try.prog) 53 43 i0 Try.underlying53 hi0 (some (⟨g, 0, none⟩ : Addr)) k cO (j + 1) K hK (by omega) W
            have hshi := fun (W : World) => run_slice_from (P := Try.prog) 53 43 i0 Try.underlying53 hi0 (some (⟨g, 0, none⟩ : Addr)) k cO (j + 1) K hK (by omega) W
            rw [hz1] at hshi
            have SLO := hide (own_front' (k := j + 1) HVi.out (by omega))
            have SHI := hide (own_from (k := j + 1) HVi.out (by omega))
            generalize (if cO = j + 1 then (some (⟨g, 0, none⟩ : Addr)) else ((some (⟨g, 0, none⟩ : Addr))).map (·.add ((j + 1) * 2))) = a2 at *
            have HONE1 := hide (show ∀ u ∈ (flat O).take ((j + 1) * 2), u.oneCell' = true from fun u hu => flat_one O u (List.mem_of_mem_take hu))
            have HONE2 := hide (show ∀ u ∈ (flat O).drop ((j + 1) * 2), u.oneCell' = true from fun u hu => flat_one O u (List.mem_of_mem_drop hu))
            have FIN := hide (show ∀ (W : World) (v' : Value), W.ownsRow wi.heap.size 43 2 v' (0 + (j + 1) + 1 + (k - (j + 1))) ([] ++ (flat O).take ((j + 1) * 2) ++ [.int .i64 s.1, .int .i64 s.2] ++ (flat O).drop ((j + 1) * 2)) → Below wi.heap.size wi W → RInv l w v' (.int .i64 ((k : Int) + 1)) W from fun W v' ho hb => by
              refine HF2.out W v' ?_ (bl_trans bli hb)
              have e1 : flat (insF s O (j + 1)) = [] ++ (flat O).take ((j + 1) * 2) ++ [.int .i64 s.1, .int .i64 s.2] ++ (flat O).drop ((j + 1) * 2) := by
                unfold insF; rw [flat_app, flat_app, flat_take, flat_drop]; rfl
              rw [e1, show k + 1 = 0 + (j + 1) + 1 + (k - (j + 1)) by omega]
              exact own_base ho bli.size)
            have hn1000 : k ≤ 1000 := by omega
            have hBw : w.heap.size ≤ wi.heap.size := bli.size
            clear HF2 HVi hncO
            have HKEEP := hide (show ∀ W, Below wi.heap.size wi W → (fun w' => Below wi.heap.size wi w' ∧ w'.cell? ⟨b1, o1 + k * 2, none⟩ = some (.int .i64 s.1) ∧ w'.cell? ⟨b1, o1 + k * 2 + 1, none⟩ = some (.int .i64 s.2)) W from fun W h => ⟨h, cell_later h f1, cell_later h f2⟩)
            go_region_held3 (fun w' => Below wi.heap.size wi w' ∧ w'.cell? ⟨b1, o1 + k * 2, none⟩ = some (.int .i64 s.1) ∧ w'.cell? ⟨b1, o1 + k * 2 + 1, none⟩ = some (.int .i64 s.2))
              ((try go_split_ands
                refine HKEEP.out _ ?_
                repeat (first | assumption | exact bl_refl _ | refine bl_drew ?_ | refine bl_alloc ?_ _)))
              (first
                | (go_split_ands; refine step_src _ (by rfl) (.tmp 30) (.tmp 33) 53 (by rfl) wi.heap.size 43 i0 (.agg #[.int .i64 0, .int .i64 0]) 2 16 Try.underlying53 hi0 hz0' hz1 hz2 rfl (by decide) (.slice (some ⟨_, 0, none⟩) 0 0) 0 [] (by rfl) (own_at (by (try refine heap_drew ?_); first | exact heap_new (by simp) | exact heap_old (heap_new (by simp))) (by first | (simp; done) | (simp; omega))) (some (⟨g, 0, none⟩ : Addr)) (j + 1) cO ((flat O).take ((j + 1) * 2)) (by rfl) (src_below SLO.out (by assumption)) HONE1.out (by omega) (by decide) (by first | (simp; done) | (simp; omega)) ?_; intro v8 w8 hv8 hg8; have B8 := bl_grown (a := wi) (by assumption) hg8 (fun k hk => by cases hk; first | (simp; done) | (simp; omega)))
                | (go_split_ands; refine step_src _ (by rfl) (.tmp 40) (.tmp 43) 53 (by rfl) wi.heap.size 43 i0 (.agg #[.int .i64 0, .int .i64 0]) 2 16 Try.underlying53 hi0 hz0' hz1 hz2 rfl (by decide) v9 (0 + (j + 1) + 1) ([] ++ (flat O).take ((j + 1) * 2) ++ [.int .i64 s.1, .int .i64 s.2]) (by rfl) hv9 a2 (k - (j + 1)) (cO - (j + 1)) ((flat O).drop ((j + 1) * 2)) (by rfl) (src_below SHI.out (by assumption)) HONE2.out (by omega) (by decide) (by have := B9.size; omega) ?_; intro va wa hva hga; have Ba := bl_grown (a := wi) (by assumption) hga (fun k hk => (hv9.lt k hk).1))
                | (go_split_ands; refine step_src _ (by rfl) (.tmp 34) (.tmp 39) 53 (by rfl) wi.heap.size 43 i0 (.agg #[.int .i64 0, .int .i64 0]) 2 16 Try.underlying53 hi0 hz0' hz1 hz2 rfl (by decide) v8 (0 + (j + 1)) ([] ++ (flat O).take ((j + 1) * 2)) (by rfl) (by first | exact hv8 | exact own_below hv8 (bl_drew (bl_alloc (bl_refl _) _)) | exact own_below hv8 (bl_alloc (bl_refl _) _)) (some ⟨_, 0, none⟩) 1 1 [.int .i64 s.1, .int .i64 s.2] (by rfl) (by first | exact src_block (cs := #[.int .i64 s.1, .int .i64 s.2]) (by (try refine heap_drew ?_); first | exact heap_new (by simp) | exact heap_old (heap_new (by simp))) rfl | exact src_block (cs := #[.int .i64 s.1, .int .i64 s.2]) (heap_kept hg8 (by (try refine heap_drew ?_); first | exact heap_new (by simp) | exact heap_old (heap_new (by simp))) (by simp [Value.ownBlock])) rfl) (by simp [Value.oneCell']) (by omega) (by decide) (by have := B8.size; simp; omega) ?_; intro v9 w9 hv9 hg9; have B9 := bl_grown (a := wi) (by assumption) hg9 (fun k hk => (hv8.lt k hk).1))
                | fail)
            all_goals
              clear hv8 hv9 hg8 hg9 hga B8 B9 hslo hshi
              go_wp2
              refine ⟨?_, by first | (simp [intOf]; done) | (simp [intOf]; omega)⟩
              exact FIN.out _ _ hva Ba
          · have HD2 := hide (HDN.out rfl)
            clear HF1 HHD HTL HDN HR
            go_wp2
            refine ⟨?_, by first | (simp [intOf]; done) | (simp [intOf]; omega)⟩
            first
              | exact ⟨j, by go_num, by omega, HD2, hbi9⟩
              | ((repeat apply Exists.intro); exact ⟨⟨j, by go_num, by omega, HD2, hbi9⟩, rfl⟩)
    · obtain rfl : k = l.length := by omega
      have hst := HP.out
      rw [List.take_length] at hst
      have he : sortS l = O := sortS_eq hst HS.out
      have he2 := HSS.out
      rw [he] at he2
      subst he2
      have HV := hide hv
      clear hst he hv HP HS hlt HSS HOL
      go_wp2
      go_ret
      exact ⟨_, rfl, hbl, HV.out⟩
end Go.Proofs.Ytbaaciekjpadfaa
