/- Contract of the reference's Union of rows. No condition but short texts and slices. -/
import Derived.Test.YtcgphknnnjpbkaaRowF
import Derived.Test.YtcgphknnnjpbkaaApp
namespace Go.Proofs.Ytcgphknnnjpbkaa
open Go.ChangeShapes Go.WideShapes Go.ChangeAt Go.RowKit
open SetM
attribute [local go_sem ↓] Go.wp_at_zero Go.wp_at_succ
attribute [local go_sem] later_cell later_frozen lt_bl le_bl max_str
def insF (s : Rw) (O : List Rw) (k : Nat) : List Rw := O.take k ++ [s] ++ O.drop k
theorem insF_perm (s : Rw) (O : List Rw) (k : Nat) : (insF s O k).Perm (O ++ [s]) := by
  unfold insF
  have h1 : (O.take k ++ [s] ++ O.drop k).Perm (O.take k ++ (O.drop k ++ [s])) := by
    rw [List.append_assoc]
    exact List.Perm.append_left _ List.perm_append_comm
  rw [← List.append_assoc, List.take_append_drop] at h1
  exact h1
theorem insF_len (s : Rw) (O : List Rw) (k : Nat) : (insF s O k).length = O.length + 1 := by
  have := (insF_perm s O k).length_eq; simpa using this
theorem insF_sorted (s : Rw) (O : List Rw) (k : Nat) (hs : Sorted O) (hd : ∀ x ∈ O.drop k, less s x = true) (ht : ∀ x ∈ O.take k, le x s) : Sorted (insF s O k) := by
  unfold insF Sorted
  have hO := hs
  unfold Sorted at hO
  rw [← List.take_append_drop k O] at hO
  obtain ⟨h1, h2, h3⟩ := List.pairwise_append.1 hO
  refine List.pairwise_append.2 ⟨List.pairwise_append.2 ⟨h1, List.pairwise_singleton _ _, fun a ha b hb => ?_⟩, h2, fun a ha b hb => ?_⟩
  · rw [List.mem_singleton] at hb; subst hb; exact ht a ha
  · rcases List.mem_append.1 ha with ha | ha
    · exact h3 a ha b hb
    · rw [List.mem_singleton] at ha; subst ha; exact less_asym _ _ (hd b hb)
theorem take_le (s : Rw) (O : List Rw) (j : Nat) (hj : j < O.length) (hs : Sorted O) (h : less s O[j] = false) : ∀ x ∈ O.take (j + 1), le x s := by
  intro x hx
  have h1 : le O[j] s := h
  obtain ⟨i, hi, rfl⟩ := List.getElem_of_mem hx
  rw [List.getElem_take]
  have hi' : i < j + 1 := by simp at hi; omega
  by_cases e : i = j
  · subst e; exact h1
  · exact le_trans ((List.pairwise_iff_getElem.1 hs) i j (by omega) hj (by omega)) h1
theorem flatR_drop (l : List Rw) (k : Nat) : (flatR l).drop (k * 2) = flatR (l.drop k) := by
  have h1 := flatR_app (l.take k) (l.drop k)
  rw [List.take_append_drop] at h1
  have h2 := flatR_take l k
  by_cases hk : k ≤ l.length
  · rw [h1, List.drop_left' (by rw [flatR_len, List.length_take]; omega)]
  · rw [List.drop_of_length_le (by rw [flatR_len]; omega), List.drop_of_length_le (by omega)]; rfl
def RInvU (l : List Rw) (w : World) (v i : Value) (wr : World) : Prop :=
  ∃ (k n : Nat) (O : List Rw), i = .int .i64 k ∧ k ≤ l.length ∧ Hid (O.Perm (okU (l.take k))) ∧ Hid (Sorted O) ∧ n ≤ k ∧ Hid (O.length = n) ∧ wr.ownsRow w.heap.size 47 2 v n (flatR O) ∧ Below w.heap.size w wr
def MInv (S : List Rw) (w1 : World) (v i : Value) (wr : World) : Prop :=
  ∃ (k m : Nat) (acc : List Rw), i = .int .i64 k ∧ k ≤ S.length ∧ Hid (uniF (S.take k) = acc) ∧ m ≤ k ∧ Hid (acc.length = m) ∧ wr.ownsRow w1.heap.size 47 2 v m (flatR acc) ∧ Below w1.heap.size w1 wr
set_option maxRecDepth 100000 in
set_option maxHeartbeats 16000000 in
theorem runion_any (v : Value) (l : List Rw) (w : World) (h : RwAt w v l) (hl : l.length ≤ 1000) (hsh : ∀ s ∈ l, Short s) :
    Calls Try.prog 101 #[v] w fun e w' => ∃ v', e = .returned v' ∧ Below w.heap.size w w' ∧ w'.ownsRow w.heap.size 47 2 v' (uniF (sortS (okU l))).length (flatR (uniF (sortS (okU l)))) := by
  obtain ⟨i0, hi0, hz0', hz1, hz2⟩ := info_parts info_rw
  have HW := hide h
  have HSH := hide hsh
  obtain ⟨aA, cA, rfl⟩ := rwat_len h
  obtain ⟨U, hU⟩ : ∃ U, uniF (sortS (okU l)) = U := ⟨_, rfl⟩
  rw [hU]
  have HUU := hide hU
  clear h hsh hU
  go_enter Try.func101, Try.ntmps101
  go_wp2
  go_loopw [3, 4] (fun v i wr => RInvU l w v i wr) (fun _ i _ => l.length - (intOf i).toNat)
  case atStart => exact ⟨0, 0, [], rfl, Nat.zero_le _, hide (by simp [okU]), hide .nil, Nat.le_refl _, hide rfl, ⟨rfl, .inl ⟨rfl, rfl⟩⟩, bl_refl w⟩
  case round =>
    obtain ⟨j, n, O, rfl, hj, HP, HS, hnj, HN, hv, hbl⟩ := hrel
    by_cases hlt : j < l.length
    · obtain ⟨b1, o1, c1, hv1, hc1, hm1, hlb1, hcell1⟩ := rwat_some (rwat_below HW.out hbl) (by omega)
      injection hv1 with hv1 _ hv1c
      subst hv1 hv1c
      unfold maxLen at hm1
      obtain ⟨x1, x2⟩ := hcell1 j hlt
      have hus := okU_next l j hlt
      have hss := HSH.out l[j] (List.getElem_mem hlt)
      clear hcell1
      obtain ⟨s, hs⟩ : ∃ s, l[j] = s := ⟨_, rfl⟩
      rw [hs] at hus x1 x2 hss
      have HUS := hide hus
      clear hus hs
      obtain ⟨aO, cO, rfl⟩ := own_slice hv
      have fin0 : rowB s = false → ∀ W, W.ownsRow w.heap.size 47 2 (.slice aO n cO) n (flatR O) → Below w.heap.size w W → RInvU l w (.slice aO n cO) (.int .i64 ((j : Int) + 1)) W := fun hb W ho hbb =>
        ⟨j + 1, n, O, by go_num, by omega, hide (by rw [HUS.out, hb]; simpa using HP.out), HS, by omega, HN, ho, hbb⟩
      have fin1 : rowB s = true → ∀ (W : World) (v' : Value) (kk : Nat), (∀ x ∈ O.drop kk, less s x = true) → (∀ x ∈ O.take kk, le x s) → W.ownsRow w.heap.size 47 2 v' (n + 1) (flatR (insF s O kk)) → Below w.heap.size w W → RInvU l w v' (.int .i64 ((j : Int) + 1)) W := fun hb W v' kk hd ht ho hbb =>
        ⟨j + 1, n + 1, insF s O kk, by go_num, by omega, hide (by rw [HUS.out, hb]; exact (insF_perm s O kk).trans (by simpa using HP.out.append_right [s])), hide (insF_sorted s O kk HS.out hd ht), by omega, hide (by rw [insF_len, HN.out]), ho, hbb⟩
      have FIN0 := hide fin0
      have FIN1 := hide fin1
      clear fin0 fin1 HUS HP
      obtain ⟨s1, s2⟩ := s
      try simp only at x1 x2
      obtain ⟨hss1, hss2⟩ := hss
      try simp only at hss1 hss2
      obtain ⟨p1, hp1⟩ : ∃ p, properB s1.data.toList = p := ⟨_, rfl⟩
      obtain ⟨p2, hp2⟩ : ∃ p, properB s2.data.toList = p := ⟨_, rfl⟩
      obtain ⟨p3, hp3⟩ : ∃ p, bl s2 s1 = p := ⟨_, rfl⟩
      have hr2 : rowB (s1, s2) = (p1 && p2 && !p3) := by rw [← hp1, ← hp2, ← hp3]; rfl
      have HP1 := hide hp1
      have HP2 := hide hp2
      have HR := hide hr2
      clear hp1 hp2 hr2
      have HV := hide hv
      have hbw : w.heap.size ≤ wr.heap.size := hbl.size
      clear hv
      go_wp2_with fail
      refine (rproper_any s1 p1 _ (by omega) HP1.out).mono ?_
      rintro e w1 ⟨rfl, hb1⟩
      have c1 : w1.cell? ⟨wr.heap.size, 0, none⟩ = some (.string s1) := by rw [(bl_cell hb1).1 _ _ (by simp)]; go_simp
      have c2 : w1.cell? ⟨wr.heap.size, 1, none⟩ = some (.string s2) := by rw [(bl_cell hb1).1 _ _ (by simp)]; go_simp
      have hbl1 := bl_trans (bl_alloc (bl_refl wr) _) hb1
      clear hb1 x1 x2
      cases p1
      · clear hp3
        have HF := hide (FIN0.out (by rw [HR.out]; rfl) _ (own_below HV.out hbl1) (bl_trans hbl hbl1))
        go_wp2
        refine ⟨?_, by first | (simp [intOf]; done) | (simp [intOf]; omega)⟩
        exact HF.out
      · go_wp2_with fail
        refine (rproper_any s2 p2 _ (by omega) HP2.out).mono ?_
        rintro e w2 ⟨rfl, hb2⟩
        have d1 := cell_later hb2 c1
        have d2 := cell_later hb2 c2
        have hbl2 := bl_trans hbl1 hb2
        clear hb2 hbl1 c1 c2
        cases p2
        · clear hp3
          have HF := hide (FIN0.out (by rw [HR.out]; rfl) _ (own_below HV.out hbl2) (bl_trans hbl hbl2))
          go_wp2
          refine ⟨?_, by first | (simp [intOf]; done) | (simp [intOf]; omega)⟩
          exact HF.out
        · cases p3
          · have HV2 := hide (own_below HV.out hbl2)
            have hbl3 := bl_trans hbl hbl2
            have hbs : wr.heap.size < w2.heap.size := by
              have := World.block_lt_of_cell? w2 _ d1
              simpa using this
            have hrb : rowB (s1, s2) = true := by rw [HR.out]; rfl
            have HF1 := hide (FIN1.out hrb)
            clear FIN0 FIN1 HR HP1 HP2 HV hbl2 hrb
            go_wp2
            go_loopw [6] (fun i wi => ∃ kk : Nat, i = .int .i64 kk ∧ kk ≤ n ∧ Hid (∀ x ∈ O.drop kk, less (s1, s2) x = true) ∧ ∃ q, w2.drewN q = wi) (fun i _ => (intOf i).toNat)
            case atStart => exact ⟨n, rfl, Nat.le_refl _, hide (by rw [List.drop_of_length_le (by rw [HN.out]; exact Nat.le_refl _)]; simp), 0, rfl⟩
            case round =>
              obtain ⟨kk, rfl, hkk, HD, q, rfl⟩ := hrel
              rcases Nat.eq_zero_or_pos kk with hk0 | hk0
              · subst hk0
                have HF2 := hide (fun W v' => HF1.out W v' 0 (by simpa using HD.out) (by simp))
                clear HD HF1
                go_wp2
                go_quiet (fail)
                go_wp2
                have f1 : ((w2.drewN q).drewN nq).cell? ⟨wr.heap.size, 0, none⟩ = some (.string s1) := by go_simp
                have f2 : ((w2.drewN q).drewN nq).cell? ⟨wr.heap.size, 1, none⟩ = some (.string s2) := by go_simp
                have HVi := hide (own_below HV2.out (bl_drewN (bl_drewN (bl_refl w2) q) nq))
                have bli : Below w.heap.size w ((w2.drewN q).drewN nq) := bl_drewN (bl_drewN hbl3 q) nq
                generalize (w2.drewN q).drewN nq = wi at *
                have hlt1 : wr.heap.size < wi.heap.size := World.block_lt_of_cell? wi _ f1
                have hncO : n ≤ cO := by
                  rcases own_form HVi.out with ⟨h0, h1, _⟩ | ⟨g', c', hv', _, _, hnc, _⟩
                  · omega
                  · cases hv'; exact hnc
                have hON2 := HN.out
                generalize hK : ((0 : Nat) : Int) = K at *
                have hslo := fun (W : World) => run_slice_to (P := Try.prog) 23 47 i0 Try.underlying23 hi0 aO n cO (0) K hK (by omega) W
                have hshi := fun (W : World) => run_slice_from (P := Try.prog) 23 47 i0 Try.underlying23 hi0 aO n cO (0) K hK (by omega) W
                rw [hz1] at hshi
                have SLO := hide (own_front' (k := 0) HVi.out (by omega))
                have SHI := hide (own_from (k := 0) HVi.out (by omega))
                generalize (if cO = 0 then aO else (aO).map (·.add ((0) * 2))) = a2 at *
                have HONE1 := hide (show ∀ u ∈ (flatR O).take ((0) * 2), u.oneCell' = true from fun u hu => flatR_one O u (List.mem_of_mem_take hu))
                have HONE2 := hide (show ∀ u ∈ (flatR O).drop ((0) * 2), u.oneCell' = true from fun u hu => flatR_one O u (List.mem_of_mem_drop hu))
                have FIN := hide (show ∀ (W : World) (v' : Value), W.ownsRow wi.heap.size 47 2 v' (0 + (0) + 1 + (n - (0))) ([] ++ (flatR O).take ((0) * 2) ++ [.string s1, .string s2] ++ (flatR O).drop ((0) * 2)) → Below wi.heap.size wi W → RInvU l w v' (.int .i64 ((j : Int) + 1)) W from fun W v' ho hb => by
                  refine HF2.out W v' ?_ (bl_trans bli hb)
                  have e1 : flatR (insF (s1, s2) O (0)) = [] ++ (flatR O).take ((0) * 2) ++ [.string s1, .string s2] ++ (flatR O).drop ((0) * 2) := by
                    unfold insF; rw [flatR_app, flatR_app, flatR_take, flatR_drop]; rfl
                  rw [e1, show n + 1 = 0 + (0) + 1 + (n - (0)) by omega]
                  exact own_base ho bli.size)
                have hn1000 : n ≤ 1000 := by omega
                have hBw : w.heap.size ≤ wi.heap.size := bli.size
                clear HF2 HVi HV2 hbl3 d1 d2 hbl hON2 hncO
                have HKEEP := hide (show ∀ W, Below wi.heap.size wi W → (fun w' => Below wi.heap.size wi w' ∧ w'.cell? ⟨wr.heap.size, 0, none⟩ = some (.string s1) ∧ w'.cell? ⟨wr.heap.size, 1, none⟩ = some (.string s2)) W from fun W h => ⟨h, cell_later h f1, cell_later h f2⟩)
                go_region_held3 (fun w' => Below wi.heap.size wi w' ∧ w'.cell? ⟨wr.heap.size, 0, none⟩ = some (.string s1) ∧ w'.cell? ⟨wr.heap.size, 1, none⟩ = some (.string s2))
                  ((try go_split_ands
                    refine HKEEP.out _ ?_
                    repeat (first | assumption | exact bl_refl _ | refine bl_drew ?_ | refine bl_alloc ?_ _)))
                  (first
                    | (go_split_ands; refine step_src _ (by rfl) (.tmp 76) (.tmp 79) 23 (by rfl) wi.heap.size 47 i0 (.agg #[.string ⟨#[]⟩, .string ⟨#[]⟩]) 2 32 Try.underlying23 hi0 hz0' hz1 hz2 rfl (by decide) (.slice (some ⟨_, 0, none⟩) 0 0) 0 [] (by rfl) (own_at (by (try refine heap_drew ?_); first | exact heap_new (by simp) | exact heap_old (heap_new (by simp))) (by first | (simp; done) | (simp; omega))) aO (0) cO ((flatR O).take ((0) * 2)) (by rfl) (src_below SLO.out (by assumption)) HONE1.out (by omega) (by decide) (by first | (simp; done) | (simp; omega)) ?_; intro v8 w8 hv8 hg8; have B8 := bl_grown (a := wi) (by assumption) hg8 (fun k hk => by cases hk; first | (simp; done) | (simp; omega)))
                    | (go_split_ands; refine step_src _ (by rfl) (.tmp 83) (.tmp 86) 23 (by rfl) wi.heap.size 47 i0 (.agg #[.string ⟨#[]⟩, .string ⟨#[]⟩]) 2 32 Try.underlying23 hi0 hz0' hz1 hz2 rfl (by decide) v9 (0 + (0) + 1) ([] ++ (flatR O).take ((0) * 2) ++ [.string s1, .string s2]) (by rfl) hv9 a2 (n - (0)) (cO - (0)) ((flatR O).drop ((0) * 2)) (by rfl) (src_below SHI.out (by assumption)) HONE2.out (by omega) (by decide) (by have := B9.size; omega) ?_; intro va wa hva hga; have Ba := bl_grown (a := wi) (by assumption) hga (fun k hk => (hv9.lt k hk).1))
                    | (go_split_ands; refine step_src _ (by rfl) (.tmp 80) (.tmp 82) 23 (by rfl) wi.heap.size 47 i0 (.agg #[.string ⟨#[]⟩, .string ⟨#[]⟩]) 2 32 Try.underlying23 hi0 hz0' hz1 hz2 rfl (by decide) v8 (0 + (0)) ([] ++ (flatR O).take ((0) * 2)) (by rfl) (by first | exact hv8 | exact own_below hv8 (bl_drew (bl_alloc (bl_refl _) _)) | exact own_below hv8 (bl_alloc (bl_refl _) _)) (some ⟨_, 0, none⟩) 1 1 [.string s1, .string s2] (by rfl) (by first | exact src_block (cs := #[.string s1, .string s2]) (by (try refine heap_drew ?_); first | exact heap_new (by simp) | exact heap_old (heap_new (by simp))) rfl | exact src_block (cs := #[.string s1, .string s2]) (heap_kept hg8 (by (try refine heap_drew ?_); first | exact heap_new (by simp) | exact heap_old (heap_new (by simp))) (by simp [Value.ownBlock])) rfl) (by simp [Value.oneCell']) (by omega) (by decide) (by have := B8.size; simp; omega) ?_; intro v9 w9 hv9 hg9; have B9 := bl_grown (a := wi) (by assumption) hg9 (fun k hk => (hv8.lt k hk).1))
                    | fail)
                all_goals
                  clear hv8 hv9 hg8 hg9 hga B8 B9 hslo hshi
                  go_wp2
                  refine ⟨?_, by first | (simp [intOf]; done) | (simp [intOf]; omega)⟩
                  exact FIN.out _ _ hva Ba
              · obtain ⟨jj, rfl⟩ : ∃ jj, kk = jj + 1 := ⟨kk - 1, by omega⟩
                have hON := HN.out
                have hjO : jj < O.length := by omega
                rcases own_form HV2.out with ⟨h0, h1, _⟩ | ⟨g, cg, hvv, hg1, hg2, hg3, hg4, _⟩
                · omega
                injection hvv with hq1 _ hq2
                subst hq1 hq2
                unfold maxLen at hg4
                have hfa := flatR_at O jj hjO
                have y1 : w2.cell? ⟨g, jj * 2, none⟩ = some (.string O[jj].1) := by rw [World.ownsRow.cellAt HV2.out (jj * 2) (by omega)]; exact hfa.1
                have y2 : w2.cell? ⟨g, jj * 2 + 1, none⟩ = some (.string O[jj].2) := by rw [World.ownsRow.cellAt HV2.out (jj * 2 + 1) (by omega)]; exact hfa.2
                have hj0 : decide ((0 : Int) < (jj : Int) + 1) = true := by first | (simp; done) | (simp; omega)
                have hdn : less (s1, s2) O[jj] = true → ∀ x ∈ O.drop jj, less (s1, s2) x = true := fun hh x hx => by
                  rw [List.drop_eq_getElem_cons hjO] at hx
                  rcases List.mem_cons.1 hx with rfl | hx
                  · exact hh
                  · exact HD.out x hx
                have HDN := hide hdn
                have HTL := hide (take_le (s1, s2) O jj hjO HS.out)
                have HHD := HD
                clear hdn hfa HD
                obtain ⟨t, ht⟩ : ∃ t, O[jj]'(by have := HN.out; omega) = t := ⟨_, rfl⟩
                rw [ht] at y1 y2
                have hdn := HDN.out
                have htl := HTL.out
                rw [ht] at hdn htl
                obtain ⟨t1, t2⟩ := t
                try simp only at y1 y2
                obtain ⟨r1, hr1⟩ : ∃ r, bl s1 t1 = r := ⟨_, rfl⟩
                obtain ⟨r2, hr2⟩ : ∃ r, eqB s1 t1 = r := ⟨_, rfl⟩
                obtain ⟨r3, hr3⟩ : ∃ r, bl s2 t2 = r := ⟨_, rfl⟩
                have hless : less (s1, s2) (t1, t2) = (r1 || (r2 && r3)) := by rw [← hr1, ← hr2, ← hr3]; rfl
                rw [hless] at hdn htl
                have hr2' : (s1.toList == t1.toList) = r2 := hr2
                have HDN2 := hide hdn
                have HTL2 := hide htl
                clear hless hdn htl HDN HTL ht hr2
                cases r1
                · cases r2
                  · clear hr3
                    have HF2 := hide (fun W v' => HF1.out W v' (jj + 1) HHD.out (HTL2.out rfl))
                    clear HF1 HHD HTL2 HDN2
                    go_wp2
                    go_quiet (fail)
                    go_wp2
                    clear y1 y2
                    have f1 : ((w2.drewN q).drewN nq).cell? ⟨wr.heap.size, 0, none⟩ = some (.string s1) := by go_simp
                    have f2 : ((w2.drewN q).drewN nq).cell? ⟨wr.heap.size, 1, none⟩ = some (.string s2) := by go_simp
                    have HVi := hide (own_below HV2.out (bl_drewN (bl_drewN (bl_refl w2) q) nq))
                    have bli : Below w.heap.size w ((w2.drewN q).drewN nq) := bl_drewN (bl_drewN hbl3 q) nq
                    generalize (w2.drewN q).drewN nq = wi at *
                    have hlt1 : wr.heap.size < wi.heap.size := World.block_lt_of_cell? wi _ f1
                    have hncO : n ≤ cO := by
                      rcases own_form HVi.out with ⟨h0, h1, _⟩ | ⟨g', c', hv', _, _, hnc, _⟩
                      · omega
                      · cases hv'; exact hnc
                    have hON2 := HN.out
                    generalize hK0 : ((jj : Int) + 1) = K at *
                    have hK : ((jj + 1 : Nat) : Int) = K := by omega
                    have hslo := fun (W : World) => run_slice_to (P := Try.prog) 23 47 i0 Try.underlying23 hi0 (some ⟨g, 0, none⟩) n cO (jj + 1) K hK (by omega) W
                    have hshi := fun (W : World) => run_slice_from (P := Try.prog) 23 47 i0 Try.underlying23 hi0 (some ⟨g, 0, none⟩) n cO (jj + 1) K hK (by omega) W
                    rw [hz1] at hshi
                    have SLO := hide (own_front' (k := jj + 1) HVi.out (by omega))
                    have SHI := hide (own_from (k := jj + 1) HVi.out (by omega))
                    generalize (if cO = jj + 1 then (some (⟨g, 0, none⟩ : Addr)) else (some (⟨g, 0, none⟩ : Addr)).map (·.add ((jj + 1) * 2))) = a2 at *
                    have HONE1 := hide (show ∀ u ∈ (flatR O).take ((jj + 1) * 2), u.oneCell' = true from fun u hu => flatR_one O u (List.mem_of_mem_take hu))
                    have HONE2 := hide (show ∀ u ∈ (flatR O).drop ((jj + 1) * 2), u.oneCell' = true from fun u hu => flatR_one O u (List.mem_of_mem_drop hu))
                    have FIN := hide (show ∀ (W : World) (v' : Value), W.ownsRow wi.heap.size 47 2 v' (0 + (jj + 1) + 1 + (n - (jj + 1))) ([] ++ (flatR O).take ((jj + 1) * 2) ++ [.string s1, .string s2] ++ (flatR O).drop ((jj + 1) * 2)) → Below wi.heap.size wi W → RInvU l w v' (.int .i64 ((j : Int) + 1)) W from fun W v' ho hb => by
                      refine HF2.out W v' ?_ (bl_trans bli hb)
                      have e1 : flatR (insF (s1, s2) O (jj + 1)) = [] ++ (flatR O).take ((jj + 1) * 2) ++ [.string s1, .string s2] ++ (flatR O).drop ((jj + 1) * 2) := by
                        unfold insF; rw [flatR_app, flatR_app, flatR_take, flatR_drop]; rfl
                      rw [e1, show n + 1 = 0 + (jj + 1) + 1 + (n - (jj + 1)) by omega]
                      exact own_base ho bli.size)
                    have hn1000 : n ≤ 1000 := by omega
                    have hBw : w.heap.size ≤ wi.heap.size := bli.size
                    clear HF2 HVi HV2 hbl3 d1 d2 hbl hON2 hncO
                    have HKEEP := hide (show ∀ W, Below wi.heap.size wi W → (fun w' => Below wi.heap.size wi w' ∧ w'.cell? ⟨wr.heap.size, 0, none⟩ = some (.string s1) ∧ w'.cell? ⟨wr.heap.size, 1, none⟩ = some (.string s2)) W from fun W h => ⟨h, cell_later h f1, cell_later h f2⟩)
                    go_region_held3 (fun w' => Below wi.heap.size wi w' ∧ w'.cell? ⟨wr.heap.size, 0, none⟩ = some (.string s1) ∧ w'.cell? ⟨wr.heap.size, 1, none⟩ = some (.string s2))
                      ((try go_split_ands
                        refine HKEEP.out _ ?_
                        repeat (first | assumption | exact bl_refl _ | refine bl_drew ?_ | refine bl_alloc ?_ _)))
                      (first
                        | (go_split_ands; refine step_src _ (by rfl) (.tmp 76) (.tmp 79) 23 (by rfl) wi.heap.size 47 i0 (.agg #[.string ⟨#[]⟩, .string ⟨#[]⟩]) 2 32 Try.underlying23 hi0 hz0' hz1 hz2 rfl (by decide) (.slice (some ⟨_, 0, none⟩) 0 0) 0 [] (by rfl) (own_at (by (try refine heap_drew ?_); first | exact heap_new (by simp) | exact heap_old (heap_new (by simp))) (by first | (simp; done) | (simp; omega))) (some ⟨g, 0, none⟩) (jj + 1) cO ((flatR O).take ((jj + 1) * 2)) (by rfl) (src_below SLO.out (by assumption)) HONE1.out (by omega) (by decide) (by first | (simp; done) | (simp; omega)) ?_; intro v8 w8 hv8 hg8; have B8 := bl_grown (a := wi) (by assumption) hg8 (fun k hk => by cases hk; first | (simp; done) | (simp; omega)))
                        | (go_split_ands; refine step_src _ (by rfl) (.tmp 83) (.tmp 86) 23 (by rfl) wi.heap.size 47 i0 (.agg #[.string ⟨#[]⟩, .string ⟨#[]⟩]) 2 32 Try.underlying23 hi0 hz0' hz1 hz2 rfl (by decide) v9 (0 + (jj + 1) + 1) ([] ++ (flatR O).take ((jj + 1) * 2) ++ [.string s1, .string s2]) (by rfl) hv9 a2 (n - (jj + 1)) (cO - (jj + 1)) ((flatR O).drop ((jj + 1) * 2)) (by rfl) (src_below SHI.out (by assumption)) HONE2.out (by omega) (by decide) (by have := B9.size; omega) ?_; intro va wa hva hga; have Ba := bl_grown (a := wi) (by assumption) hga (fun k hk => (hv9.lt k hk).1))
                        | (go_split_ands; refine step_src _ (by rfl) (.tmp 80) (.tmp 82) 23 (by rfl) wi.heap.size 47 i0 (.agg #[.string ⟨#[]⟩, .string ⟨#[]⟩]) 2 32 Try.underlying23 hi0 hz0' hz1 hz2 rfl (by decide) v8 (0 + (jj + 1)) ([] ++ (flatR O).take ((jj + 1) * 2)) (by rfl) (by first | exact hv8 | exact own_below hv8 (bl_drew (bl_alloc (bl_refl _) _)) | exact own_below hv8 (bl_alloc (bl_refl _) _)) (some ⟨_, 0, none⟩) 1 1 [.string s1, .string s2] (by rfl) (by first | exact src_block (cs := #[.string s1, .string s2]) (by (try refine heap_drew ?_); first | exact heap_new (by simp) | exact heap_old (heap_new (by simp))) rfl | exact src_block (cs := #[.string s1, .string s2]) (heap_kept hg8 (by (try refine heap_drew ?_); first | exact heap_new (by simp) | exact heap_old (heap_new (by simp))) (by simp [Value.ownBlock])) rfl) (by simp [Value.oneCell']) (by omega) (by decide) (by have := B8.size; simp; omega) ?_; intro v9 w9 hv9 hg9; have B9 := bl_grown (a := wi) (by assumption) hg9 (fun k hk => (hv8.lt k hk).1))
                        | fail)
                    all_goals
                      clear hv8 hv9 hg8 hg9 hga B8 B9 hslo hshi
                      go_wp2
                      refine ⟨?_, by first | (simp [intOf]; done) | (simp [intOf]; omega)⟩
                      exact FIN.out _ _ hva Ba
                  · cases r3
                    · have HF2 := hide (fun W v' => HF1.out W v' (jj + 1) HHD.out (HTL2.out rfl))
                      clear HF1 HHD HTL2 HDN2
                      go_wp2
                      go_quiet (fail)
                      go_wp2
                      clear y1 y2
                      have f1 : ((w2.drewN q).drewN nq).cell? ⟨wr.heap.size, 0, none⟩ = some (.string s1) := by go_simp
                      have f2 : ((w2.drewN q).drewN nq).cell? ⟨wr.heap.size, 1, none⟩ = some (.string s2) := by go_simp
                      have HVi := hide (own_below HV2.out (bl_drewN (bl_drewN (bl_refl w2) q) nq))
                      have bli : Below w.heap.size w ((w2.drewN q).drewN nq) := bl_drewN (bl_drewN hbl3 q) nq
                      generalize (w2.drewN q).drewN nq = wi at *
                      have hlt1 : wr.heap.size < wi.heap.size := World.block_lt_of_cell? wi _ f1
                      have hncO : n ≤ cO := by
                        rcases own_form HVi.out with ⟨h0, h1, _⟩ | ⟨g', c', hv', _, _, hnc, _⟩
                        · omega
                        · cases hv'; exact hnc
                      have hON2 := HN.out
                      generalize hK0 : ((jj : Int) + 1) = K at *
                      have hK : ((jj + 1 : Nat) : Int) = K := by omega
                      have hslo := fun (W : World) => run_slice_to (P := Try.prog) 23 47 i0 Try.underlying23 hi0 (some ⟨g, 0, none⟩) n cO (jj + 1) K hK (by omega) W
                      have hshi := fun (W : World) => run_slice_from (P := Try.prog) 23 47 i0 Try.underlying23 hi0 (some ⟨g, 0, none⟩) n cO (jj + 1) K hK (by omega) W
                      rw [hz1] at hshi
                      have SLO := hide (own_front' (k := jj + 1) HVi.out (by omega))
                      have SHI := hide (own_from (k := jj + 1) HVi.out (by omega))
                      generalize (if cO = jj + 1 then (some (⟨g, 0, none⟩ : Addr)) else (some (⟨g, 0, none⟩ : Addr)).map (·.add ((jj + 1) * 2))) = a2 at *
                      have HONE1 := hide (show ∀ u ∈ (flatR O).take ((jj + 1) * 2), u.oneCell' = true from fun u hu => flatR_one O u (List.mem_of_mem_take hu))
                      have HONE2 := hide (show ∀ u ∈ (flatR O).drop ((jj + 1) * 2), u.oneCell' = true from fun u hu => flatR_one O u (List.mem_of_mem_drop hu))
                      have FIN := hide (show ∀ (W : World) (v' : Value), W.ownsRow wi.heap.size 47 2 v' (0 + (jj + 1) + 1 + (n - (jj + 1))) ([] ++ (flatR O).take ((jj + 1) * 2) ++ [.string s1, .string s2] ++ (flatR O).drop ((jj + 1) * 2)) → Below wi.heap.size wi W → RInvU l w v' (.int .i64 ((j : Int) + 1)) W from fun W v' ho hb => by
                        refine HF2.out W v' ?_ (bl_trans bli hb)
                        have e1 : flatR (insF (s1, s2) O (jj + 1)) = [] ++ (flatR O).take ((jj + 1) * 2) ++ [.string s1, .string s2] ++ (flatR O).drop ((jj + 1) * 2) := by
                          unfold insF; rw [flatR_app, flatR_app, flatR_take, flatR_drop]; rfl
                        rw [e1, show n + 1 = 0 + (jj + 1) + 1 + (n - (jj + 1)) by omega]
                        exact own_base ho bli.size)
                      have hn1000 : n ≤ 1000 := by omega
                      have hBw : w.heap.size ≤ wi.heap.size := bli.size
                      clear HF2 HVi HV2 hbl3 d1 d2 hbl hON2 hncO
                      have HKEEP := hide (show ∀ W, Below wi.heap.size wi W → (fun w' => Below wi.heap.size wi w' ∧ w'.cell? ⟨wr.heap.size, 0, none⟩ = some (.string s1) ∧ w'.cell? ⟨wr.heap.size, 1, none⟩ = some (.string s2)) W from fun W h => ⟨h, cell_later h f1, cell_later h f2⟩)
                      go_region_held3 (fun w' => Below wi.heap.size wi w' ∧ w'.cell? ⟨wr.heap.size, 0, none⟩ = some (.string s1) ∧ w'.cell? ⟨wr.heap.size, 1, none⟩ = some (.string s2))
                        ((try go_split_ands
                          refine HKEEP.out _ ?_
                          repeat (first | assumption | exact bl_refl _ | refine bl_drew ?_ | refine bl_alloc ?_ _)))
                        (first
                          | (go_split_ands; refine step_src _ (by rfl) (.tmp 76) (.tmp 79) 23 (by rfl) wi.heap.size 47 i0 (.agg #[.string ⟨#[]⟩, .string ⟨#[]⟩]) 2 32 Try.underlying23 hi0 hz0' hz1 hz2 rfl (by decide) (.slice (some ⟨_, 0, none⟩) 0 0) 0 [] (by rfl) (own_at (by (try refine heap_drew ?_); first | exact heap_new (by simp) | exact heap_old (heap_new (by simp))) (by first | (simp; done) | (simp; omega))) (some ⟨g, 0, none⟩) (jj + 1) cO ((flatR O).take ((jj + 1) * 2)) (by rfl) (src_below SLO.out (by assumption)) HONE1.out (by omega) (by decide) (by first | (simp; done) | (simp; omega)) ?_; intro v8 w8 hv8 hg8; have B8 := bl_grown (a := wi) (by assumption) hg8 (fun k hk => by cases hk; first | (simp; done) | (simp; omega)))
                          | (go_split_ands; refine step_src _ (by rfl) (.tmp 83) (.tmp 86) 23 (by rfl) wi.heap.size 47 i0 (.agg #[.string ⟨#[]⟩, .string ⟨#[]⟩]) 2 32 Try.underlying23 hi0 hz0' hz1 hz2 rfl (by decide) v9 (0 + (jj + 1) + 1) ([] ++ (flatR O).take ((jj + 1) * 2) ++ [.string s1, .string s2]) (by rfl) hv9 a2 (n - (jj + 1)) (cO - (jj + 1)) ((flatR O).drop ((jj + 1) * 2)) (by rfl) (src_below SHI.out (by assumption)) HONE2.out (by omega) (by decide) (by have := B9.size; omega) ?_; intro va wa hva hga; have Ba := bl_grown (a := wi) (by assumption) hga (fun k hk => (hv9.lt k hk).1))
                          | (go_split_ands; refine step_src _ (by rfl) (.tmp 80) (.tmp 82) 23 (by rfl) wi.heap.size 47 i0 (.agg #[.string ⟨#[]⟩, .string ⟨#[]⟩]) 2 32 Try.underlying23 hi0 hz0' hz1 hz2 rfl (by decide) v8 (0 + (jj + 1)) ([] ++ (flatR O).take ((jj + 1) * 2)) (by rfl) (by first | exact hv8 | exact own_below hv8 (bl_drew (bl_alloc (bl_refl _) _)) | exact own_below hv8 (bl_alloc (bl_refl _) _)) (some ⟨_, 0, none⟩) 1 1 [.string s1, .string s2] (by rfl) (by first | exact src_block (cs := #[.string s1, .string s2]) (by (try refine heap_drew ?_); first | exact heap_new (by simp) | exact heap_old (heap_new (by simp))) rfl | exact src_block (cs := #[.string s1, .string s2]) (heap_kept hg8 (by (try refine heap_drew ?_); first | exact heap_new (by simp) | exact heap_old (heap_new (by simp))) (by simp [Value.ownBlock])) rfl) (by simp [Value.oneCell']) (by omega) (by decide) (by have := B8.size; simp; omega) ?_; intro v9 w9 hv9 hg9; have B9 := bl_grown (a := wi) (by assumption) hg9 (fun k hk => (hv8.lt k hk).1))
                          | fail)
                      all_goals
                        clear hv8 hv9 hg8 hg9 hga B8 B9 hslo hshi
                        go_wp2
                        refine ⟨?_, by first | (simp [intOf]; done) | (simp [intOf]; omega)⟩
                        exact FIN.out _ _ hva Ba
                    · have HD2 := hide (HDN2.out rfl)
                      clear HF1 HHD HTL2 HDN2
                      go_wp2
                      go_quiet (fail)
                      go_wp2
                      refine ⟨?_, by first | (simp [intOf]; done) | (simp [intOf]; omega)⟩
                      first
                        | exact ⟨jj, by go_num, by omega, HD2, _, rfl⟩
                        | ((repeat apply Exists.intro); exact ⟨⟨jj, by go_num, by omega, HD2, _, rfl⟩, rfl⟩)
                · clear hr2' hr3
                  have HD2 := hide (HDN2.out rfl)
                  clear HF1 HHD HTL2 HDN2
                  go_wp2
                  go_quiet (fail)
                  go_wp2
                  refine ⟨?_, by first | (simp [intOf]; done) | (simp [intOf]; omega)⟩
                  first
                    | exact ⟨jj, by go_num, by omega, HD2, _, rfl⟩
                    | ((repeat apply Exists.intro); exact ⟨⟨jj, by go_num, by omega, HD2, _, rfl⟩, rfl⟩)
          · have HF := hide (FIN0.out (by rw [HR.out]; rfl) _ (own_below HV.out hbl2) (bl_trans hbl hbl2))
            go_wp2
            refine ⟨?_, by first | (simp [intOf]; done) | (simp [intOf]; omega)⟩
            exact HF.out
    · obtain rfl : j = l.length := by omega
      have hst := HP.out
      rw [List.take_length] at hst
      have he : sortS (okU l) = O := sortS_eq hst HS.out
      have hU2 := HUU.out
      rw [he] at hU2
      have HU2 := hide hU2
      clear hst he hU2 HUU HP HS HW HSH hlt
      obtain ⟨aO, cO, rfl⟩ := own_slice hv
      have hO1 : O.length ≤ 1000 := by have := HN.out; omega
      obtain rfl : n = O.length := HN.out.symm
      have hsp := own_rwat hv
      have HSP := hide hsp
      clear hv hsp HN hnj
      go_wp2
      obtain ⟨w1, rfl⟩ : ∃ w1 : World, w1 = wr := ⟨_, rfl⟩
      go_loopw [7, 8] (fun v i wr => MInv O w1 v i wr) (fun _ i _ => O.length - (intOf i).toNat)
      case atStart => exact ⟨0, 0, [], rfl, Nat.zero_le _, hide rfl, Nat.le_refl _, hide rfl, ⟨rfl, .inl ⟨rfl, rfl⟩⟩, bl_refl w1⟩
      case round =>
        obtain ⟨k, m, acc, rfl, hk, HU, hmk, HM, hv, hbk⟩ := hrel
        by_cases hlt : k < O.length
        · obtain ⟨b1, o1, c1, hv1, hc1, hm1, hlb1, hcell1⟩ := rwat_some (rwat_below HSP.out hbk) (by omega)
          injection hv1 with hv1 _ hv1c
          subst hv1 hv1c
          unfold maxLen at hm1
          obtain ⟨x1, x2⟩ := hcell1 k hlt
          have hus := uniF_snoc O k hlt
          rw [HU.out] at hus
          clear hcell1
          obtain ⟨s, hs⟩ : ∃ s, O[k] = s := ⟨_, rfl⟩
          rw [hs] at hus x1 x2
          have fin : ∀ (v' : Value) (W : World) (acc' : List Rw) (m' : Nat), m' ≤ k + 1 → acc'.length = m' → stepU acc s = acc' → W.ownsRow w1.heap.size 47 2 v' m' (flatR acc') → Below w1.heap.size w1 W → MInv O w1 v' (.int .i64 ((k : Int) + 1)) W :=
            fun v' W acc' m' h0 h4 h1 h2 h3 => ⟨k + 1, m', acc', by go_num, by omega, hide (by rw [hus, h1]), h0, hide h4, h2, h3⟩
          have FIN := hide fin
          clear fin hus hs HU
          have hbw : w1.heap.size ≤ wr.heap.size := hbk.size
          rcases List.eq_nil_or_concat acc with rfl | ⟨a0, t, rfl⟩
          · obtain rfl : m = 0 := by have := HM.out; simpa using this.symm
            have HST := hide (step_nil s)
            obtain ⟨aV, cV, rfl⟩ := own_slice hv
            have HV := hide hv
            clear hv HM
            go_wp2
            go_quiet (fail)
            go_wp2_with (at_builtin; (refine wpList_push (wr.drewN nq) rfl _ _ 23 rfl w1.heap.size 47 i0 (.agg #[.string ⟨#[]⟩, .string ⟨#[]⟩]) 2 32 Try.underlying23 hi0 hz0' hz1 hz2 rfl (by decide) (.slice aV 0 cV) 0 (flatR []) rfl (own_below HV.out (bl_drewN (bl_refl _) nq)) 1 #[.string s.1, .string s.2] (by show Value.slice (some ⟨wr.heap.size, 0, none⟩) 1 1 = _; simp) rfl (by simp [Value.oneCell']) (by omega) (by decide) (by simp; omega) ?_); intro v' w4 hv4 hg4 hat)
            have hbl4 : Below w1.heap.size w1 w4 := bl_own (bl_drewN hbk nq) (own_below HV.out (bl_drewN (bl_refl _) nq)) hg4 (Nat.le_refl _)
            refine ⟨?_, by first | (simp [intOf]; done) | (simp [intOf]; omega)⟩
            exact FIN.out _ _ [s] 1 (by omega) rfl HST.out hv4 hbl4
          · rw [List.concat_eq_append] at *
            obtain rfl : m = a0.length + 1 := by have := HM.out; simp at this; omega
            have hget : (a0 ++ [t])[a0.length]'(by simp) = t := by simp
            have hat2 := flatR_at (a0 ++ [t]) a0.length (by simp)
            rw [hget] at hat2
            rcases own_form hv with ⟨_, h1, _⟩ | ⟨g, cg, rfl, hg1, hg2, hg3, hg4, hg5⟩
            · omega
            have y1 := hg5 _ _ hat2.1
            have y2 := hg5 _ _ hat2.2
            have yf := World.ownsRow.frozenAt hv (a0.length * 2 + 1)
            unfold maxLen at hg4
            have hd : decide ((0 : Int) < (a0.length : Int) + 1) = true := by first | (simp; done) | (simp; omega)
            have hset : (flatR (a0 ++ [t])).set (a0.length * 2 + 1) (.string (mx t.2 s.2)) = flatR (a0 ++ [(t.1, mx t.2 s.2)]) := by
              rw [flatR_set1 _ a0.length (by simp), hget]
              simp
            have HSET := hide hset
            have HV := hide hv
            clear hv hg5 hat2 hget hset HM
            cases hr : bl t.2 s.1
            · have HST := hide (step_on a0 t s hr)
              have fin2 : ∀ q, MInv O w1 (.slice (some ⟨g, 0, none⟩) (a0.length + 1) cg) (.int .i64 ((k : Int) + 1)) ((wr.drewN q).drew.setCell ⟨g, a0.length * 2 + 1, none⟩ (.string (mx t.2 s.2))) := by
                intro q
                have h9 := (World.ownsRow.stored (World.ownsRow.drew (own_below HV.out (bl_drewN (bl_refl _) q))) (a0.length * 2 + 1) (.string (mx t.2 s.2))).1
                rw [HSET.out] at h9
                exact FIN.out _ _ _ _ (by omega) (by simp) HST.out h9 (bl_set (bl_drew (bl_drewN hbk q)) hg1 _)
              have FIN2 := hide fin2
              clear fin2
              go_wp2
              go_quiet (fail)
              go_wp2
              go_region
              all_goals
                go_wp2
                refine ⟨?_, by first | (simp [intOf]; done) | (simp [intOf]; omega)⟩
                exact FIN2.out _
            · have HST := hide (step_new a0 t s hr)
              go_wp2
              go_quiet (fail)
              go_wp2_with (at_builtin; (refine wpList_push (wr.drewN nq) rfl _ _ 23 rfl w1.heap.size 47 i0 (.agg #[.string ⟨#[]⟩, .string ⟨#[]⟩]) 2 32 Try.underlying23 hi0 hz0' hz1 hz2 rfl (by decide) (.slice (some ⟨g, 0, none⟩) (a0.length + 1) cg) (a0.length + 1) (flatR (a0 ++ [t])) rfl (own_below HV.out (bl_drewN (bl_refl _) nq)) 1 #[.string s.1, .string s.2] (by show Value.slice (some ⟨wr.heap.size, 0, none⟩) 1 1 = _; simp) rfl (by simp [Value.oneCell']) (by omega) (by decide) (by simp; omega) ?_); intro v' w4 hv4 hg4 hat)
              have hbl4 : Below w1.heap.size w1 w4 := bl_own (bl_drewN hbk nq) (own_below HV.out (bl_drewN (bl_refl _) nq)) hg4 (Nat.le_refl _)
              have hv5 : w4.ownsRow w1.heap.size 47 2 v' (a0.length + 1 + 1) (flatR (a0 ++ [t] ++ [s])) := by
                rw [flatR_app (a0 ++ [t])]; exact hv4
              refine ⟨?_, by first | (simp [intOf]; done) | (simp [intOf]; omega)⟩
              exact FIN.out _ _ _ _ (by omega) (by simp) HST.out hv5 hbl4
        · obtain rfl : k = O.length := by omega
          have hU4 := HU.out
          rw [List.take_length, HU2.out] at hU4
          subst hU4
          obtain rfl : m = U.length := HM.out.symm
          have HO := hide (own_base hv hbl.size)
          clear hv HU HM hlt
          go_wp2
          go_ret
          exact ⟨_, rfl, bl_trans hbl hbk, HO.out⟩
end Go.Proofs.Ytcgphknnnjpbkaa
