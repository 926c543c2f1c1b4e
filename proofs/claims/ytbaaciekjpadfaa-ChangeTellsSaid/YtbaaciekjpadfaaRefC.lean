/- Contract of the reference's Back: a code, or what turns the edits back. (By genref6b.py.) -/
import Derived.Test.YtbaaciekjpadfaaRefB
import Derived.BigRegion
namespace Go.Proofs.Ytbaaciekjpadfaa
open Go.ChangeShapes Go.WideShapes Go.ChangeAt Go.RowKit
open SpanM EdM
attribute [local go_sem ↓] Go.wp_at_zero Go.wp_at_succ
attribute [local go_sem] later_cell later_frozen
set_option maxHeartbeats 2000000 in
theorem r6back_no (s : ByteArray) (r : Int) (v : Value) (l : List Ed) (w : World) (h : EdAt w v l) (hl : l.length ≤ 20) (hx : ∀ e ∈ l, e.2.size ≤ 70000) (hs : s.size ≤ 1000000) (hr : mayE s.size l = r) (h0 : r ≠ 0) :
    Calls Try.prog 18 #[.string s, v] w fun e w' => e = .returned (.tuple #[.slice none 0 0, .int .i64 r]) ∧ Below w.heap.size w w' := by
  have H := hide h
  have HR := hide hr
  have HX := hide hx
  have hne : (r != 0) = true := by simp [h0]
  clear h hr h0 hx
  go_enter Try.func18, Try.ntmps18
  go_wp2_with fail
  refine (r6may_any s.size r v l _ H.out (by omega) HX.out (by omega) HR.out).mono ?_
  rintro e w1 ⟨rfl, hb1⟩
  go_wp2
  go_ret2
  exact ⟨rfl, hb1⟩
/-- The edit that turns one back, at its own place. -/
def bOf (s : Bs) (d : Int) (g : Ed) : Ed := ((g.1.1 + d, g.1.1 + d + len g), mkT ((s.take g.1.2.toNat).drop g.1.1.toNat))
theorem inv_end (s : Bs) (a : List Ed) (g : Ed) : inv s 0 (a ++ [g]) = inv s 0 a ++ [bOf s (tot a) g] := by
  rw [inv_app, inv_cons, Int.zero_add]; rfl
theorem bOf_ext (s : ByteArray) (d : Int) (f t : Int) (x : ByteArray) : bOf (bts s) d ((f, t), x) = ((f + d, f + d + (x.size : Int)), s.extract f.toNat t.toNat) := by
  unfold bOf len
  show ((f + d, f + d + (x.size : Int)), mkT (((bts s).take t.toNat).drop f.toNat)) = _
  rw [← bts_ext, mk_bts]
theorem take_parts (s : Bs) (a b c : Nat) (h1 : a ≤ b) (h2 : b ≤ c) (h3 : c ≤ s.length) : (s.take c).drop a = (s.take b).drop a ++ (s.take c).drop b := by
  have e1 : s.take c = s.take b ++ (s.take c).drop b := by
    have := (List.take_append_drop b (s.take c)).symm
    rw [List.take_take, Nat.min_eq_left h2] at this
    exact this
  calc (s.take c).drop a = (s.take b ++ (s.take c).drop b).drop a := by rw [← e1]
    _ = (s.take b).drop a ++ (s.take c).drop b := by rw [List.drop_append_of_le_length (by rw [List.length_take]; omega)]
theorem bOf_join (s : ByteArray) (d : Int) (g : Ed) (t : Int) (x : ByteArray) (_h0 : 0 ≤ g.1.1) (h1 : g.1.1 ≤ g.1.2) (h2 : g.1.2 ≤ t) (h3 : t ≤ s.size) :
    bOf (bts s) d (joinE g ((g.1.2, t), x)) = (((bOf (bts s) d g).1.1, g.1.2 + (d + dl g) + (x.size : Int)), (bOf (bts s) d g).2 ++ s.extract g.1.2.toNat t.toNat) := by
  unfold bOf
  rw [len_join]
  have e1 : (joinE g ((g.1.2, t), x)).1 = (g.1.1, t) := rfl
  rw [e1]
  have e2 : len ((g.1.2, t), x) = (x.size : Int) := rfl
  rw [e2]
  have e3 : mkT (((bts s).take t.toNat).drop g.1.1.toNat) = mkT (((bts s).take g.1.2.toNat).drop g.1.1.toNat) ++ s.extract g.1.2.toNat t.toNat := by
    have e4 : ∀ a b : ByteArray, bts (a ++ b) = bts a ++ bts b := fun a b => by unfold bts; simp
    rw [take_parts (bts s) g.1.1.toNat g.1.2.toNat t.toNat (by omega) (by omega) (by rw [bts_len]; omega)]
    rw [← mk_bts (mkT _ ++ _), e4, bts_mk, bts_ext]
  show ((g.1.1 + d, g.1.1 + d + (len g + (x.size : Int))), mkT (((bts s).take t.toNat).drop g.1.1.toNat)) = _
  rw [e3]
  have e5 : g.1.1 + d + (len g + (x.size : Int)) = g.1.2 + (d + dl g) + (x.size : Int) := by unfold dl; omega
  rw [e5]
theorem flatE_last2 (L0 : List Ed) (b : Ed) (z : Int) (y : ByteArray) : ((flatE (L0 ++ [b])).set (L0.length * 3 + 1) (.int .i64 z)).set (L0.length * 3 + 2) (.string y) = flatE (L0 ++ [((b.1.1, z), y)]) := by
  have h := flatE_last L0 b (z - b.1.2) y
  have e : b.1.2 + (z - b.1.2) = z := by omega
  unfold lastE at h
  rw [e] at h
  exact h
theorem on_facts (s : ByteArray) (A : List Ed) (m : Nat) (f t cur : Int) (x : ByteArray) (hq : f ≤ t) (ht : t ≤ s.size) (hm : A.length = m) (hT : tot A = cur) (hC : Chain f 0 A) (hx : ∃ a g, A = a ++ [g] ∧ g.1.2 = f) :
    ∃ (L0 : List Ed) (b0 : Ed) (A' : List Ed) (n0 : Nat), L0.length = n0 ∧ m = n0 + 1 ∧ inv (bts s) 0 A = L0 ++ [b0] ∧ b0.2.size ≤ s.size ∧ stepG A ((f, t), x) = A' ∧ A'.length = n0 + 1 ∧ (∃ a g, A' = a ++ [g] ∧ g.1.2 = t) ∧
      inv (bts s) 0 A' = L0 ++ [((b0.1.1, f + cur + (x.size : Int)), b0.2 ++ s.extract f.toNat t.toNat)] := by
  obtain ⟨a, ge, rfl, rfl⟩ := hx
  rw [chain_snoc] at hC
  obtain ⟨cg1, cg2, cg3⟩ := hC
  have cg0 := chain_le cg1
  have hjo := bOf_join s (tot a) ge t x cg0 cg2 hq ht
  have hta : tot a + dl ge = cur := by rw [← hT, tot_app, tot_one]
  rw [hta] at hjo
  refine ⟨inv (bts s) 0 a, bOf (bts s) (tot a) ge, a ++ [joinE ge ((ge.1.2, t), x)], a.length, inv_len _ _ _, by rw [← hm]; simp, inv_end _ _ _, ?_, stepG_on a ge _ rfl, by simp, ⟨a, _, rfl, rfl⟩, ?_⟩
  · show (mkT (((bts s).take ge.1.2.toNat).drop ge.1.1.toNat)).size ≤ _
    rw [mk_size, List.length_drop, List.length_take, bts_len]; omega
  · rw [inv_end, hjo]
def RbInv (s : ByteArray) (S : List Ed) (wS : World) (out by' last i : Value) (wr : World) : Prop :=
  ∃ (k m : Nat) (A : List Ed), i = .int .i64 k ∧ k ≤ S.length ∧ Hid (A = grp (S.take k)) ∧ Hid (A.length = m) ∧ m ≤ k ∧ by' = .int .i64 (tot (S.take k)) ∧
    wr.ownsRow wS.heap.size 45 3 out m (flatE (inv (bts s) 0 A)) ∧ ((k = 0 ∧ m = 0 ∧ last = .int .i64 (-1)) ∨ (0 < k ∧ ∃ g2, last = .int .i64 g2 ∧ Hid (∃ a g, A = a ++ [g] ∧ g.1.2 = g2))) ∧ Below wS.heap.size wS wr
set_option maxRecDepth 100000 in
set_option maxHeartbeats 16000000 in
theorem r6back_yes (s : ByteArray) (v : Value) (l : List Ed) (w : World) (h : EdAt w v l) (hl : l.length ≤ 20) (hx : ∀ e ∈ l, e.2.size ≤ 70000) (hs : s.size ≤ 1000000) (hf : Fine s.size l) :
    Calls Try.prog 18 #[.string s, v] w fun e w' => ∃ v', e = .returned (.tuple #[v', .int .i64 0]) ∧ Below w.heap.size w w' ∧ w'.ownsRow w.heap.size 45 3 v' (grp (sortE l)).length (flatE (inv (bts s) 0 (grp (sortE l)))) := by
  obtain ⟨i0, hi0, hz0', hz1, hz2⟩ := info_parts info_ed
  have hch : Chain s.size 0 (sortE l) := hf.chain
  have hgd : ∀ e ∈ sortE l, GoodD e := fun e he => by
    have he' := (sortE_perm l).mem_iff.1 he
    have := hf.mem e he'
    exact ⟨by omega, by omega, hx e he'⟩
  have H := hide h
  have HC := hide (fine_code hf)
  have HX := hide hx
  have hsl := sortE_len l
  have hso := fun W hh => r6sort_any v l W hh (by omega)
  obtain ⟨S, hS⟩ : ∃ S, sortE l = S := ⟨_, rfl⟩
  have hso' : ∀ W, EdAt W v l → Calls Try.prog 23 #[v] W fun e w' => ∃ v', e = .returned v' ∧ Below W.heap.size W w' ∧ w'.ownsRow W.heap.size 45 3 v' S.length (flatE S) := fun W hh => by
    have := hso W hh
    rw [hS, ← hsl, hS] at this
    exact this
  rw [hS] at hch hgd hsl ⊢
  have HSO := hide hso'
  have HCH := hide hch
  have HGD := hide hgd
  have hSl : S.length ≤ 20 := by omega
  obtain ⟨RES, hRES⟩ : ∃ RES, flatE (inv (bts s) 0 (grp S)) = RES := ⟨_, rfl⟩
  obtain ⟨N, hN⟩ : ∃ N, (grp S).length = N := ⟨_, rfl⟩
  rw [hRES, hN]
  have HRES := hide hRES
  have HN := hide hN
  clear h hx hf hch hgd hso hso' hS hRES hN
  go_enter Try.func18, Try.ntmps18
  go_wp2_with fail
  refine (r6may_any s.size 0 v l _ H.out (by omega) HX.out (by omega) HC.out).mono ?_
  rintro e w1 ⟨rfl, hb1⟩
  have H1 := hide (edat_below H.out hb1)
  go_wp2_with fail
  refine (HSO.out _ H1.out).mono ?_
  rintro e wS ⟨vS, rfl, hbS, hoS⟩
  have HS := hide (own_edat hoS)
  obtain ⟨aS, cS, rfl⟩ := edat_len HS.out
  have hwS : Below w.heap.size w wS := bl_trans hb1 hbS
  clear hoS H1 HSO HC HX H hb1 hbS
  go_wp2
  go_loopw [8, 9, 10, 11, 12, 13] (fun out by' last i _ _ wr => RbInv s S wS out by' last i wr) (fun _ _ _ i _ _ _ => S.length - (intOf i).toNat)
  case atStart => exact ⟨0, 0, [], rfl, Nat.zero_le _, hide rfl, hide rfl, Nat.le_refl _, by simp [tot], ⟨rfl, .inl ⟨rfl, rfl⟩⟩, .inl ⟨rfl, rfl, rfl⟩, bl_refl wS⟩
  case round =>
    obtain ⟨k, m, A, rfl, hk, HA, HM, hmk, rfl, hrow, hcase, hbl⟩ := hrel
    by_cases hlt : k < S.length
    · obtain ⟨b1', o1, c1', hv1, hc1, hm1, hlb1, hcell1⟩ := edat_some HS.out (by omega)
      injection hv1 with hv1 _ hv1c
      subst hv1 hv1c
      unfold maxLen at hm1
      obtain ⟨s1, s2, s3⟩ := hcell1 k hlt
      have hsn : S.take (k + 1) = S.take k ++ [S[k]] := List.take_succ_eq_append_getElem hlt
      have hgs := grp_snoc (S.take k) S[k]
      rw [← hsn, ← HA.out] at hgs
      have htot : tot (S.take (k + 1)) = tot (S.take k) + dl S[k] := by rw [hsn, tot_app, tot_one]
      have hchk : Chain s.size 0 (S.take k ++ [S[k]]) := by rw [← hsn]; exact chain_left (b := S.drop (k + 1)) (by rw [List.take_append_drop]; exact HCH.out)
      rw [chain_snoc] at hchk
      obtain ⟨hcA, q1, q2⟩ := hchk
      have hq0 := chain_le hcA
      have hcG := grp_chain (S.take k) hcA
      rw [← HA.out] at hcG
      have hgg := (HGD.out S[k] (List.getElem_mem hlt)).2.2
      have hbd := grown_bd 0 S HGD.out k hk
      have hcur : grown 0 (S.take k) = tot (S.take k) := by rw [grown_add]; omega
      rw [hcur] at hbd
      have htA : tot A = tot (S.take k) := by rw [HA.out, grp_tot]
      have HGS := hide hgs
      have HTOT := hide htot
      have HCG := hide hcG
      have HTA := hide htA
      clear hcell1 hsn hgs htot hcA hcG hcur htA
      generalize S[k] = e0 at *
      obtain ⟨⟨f, t⟩, x⟩ := e0
      replace q1 : f ≤ t := q1
      replace q2 : t ≤ (s.size : Int) := q2
      replace hq0 : 0 ≤ f := hq0
      replace hgg : x.size ≤ 70000 := hgg
      replace s1 : wS.cell? ⟨b1', o1 + k * 3, none⟩ = some (.int .i64 f) := s1
      replace s2 : wS.cell? ⟨b1', o1 + k * 3 + 1, none⟩ = some (.int .i64 t) := s2
      replace s3 : wS.cell? ⟨b1', o1 + k * 3 + 2, none⟩ = some (.string x) := s3
      replace HCG : Hid (Chain f 0 A) := HCG
      have htot2 : tot (S.take (k + 1)) = tot (S.take k) + ((x.size : Int) - (t - f)) := HTOT.out
      obtain ⟨cur, hcur⟩ : ∃ cur, tot (S.take k) = cur := ⟨_, rfl⟩
      rw [hcur] at hbd htot2 HTA ⊢
      have hc1' : -200000000000000 ≤ cur := by omega
      have hc2' : cur ≤ 200000000000000 := by omega
      have HT2 := hide htot2
      clear hcur htot2 HTOT hbd
      have hw0 : IntKind.i64.wrap (f + cur) = f + cur := IntWalk.i64_in _ (by omega)
      have hw1 : IntKind.i64.wrap (f + cur + (x.size : Int)) = f + cur + (x.size : Int) := IntWalk.i64_in _ (by omega)
      have hw2 : IntKind.i64.wrap (cur + (x.size : Int)) = cur + (x.size : Int) := IntWalk.i64_in _ (by omega)
      have hw3 : IntKind.i64.wrap (t - f) = t - f := IntWalk.i64_in _ (by omega)
      have hw4 : IntKind.i64.wrap (cur + (x.size : Int) - (t - f)) = cur + (x.size : Int) - (t - f) := IntWalk.i64_in _ (by omega)
      have x1 := cell_later hbl s1
      have x2 := cell_later hbl s2
      have x3 := cell_later hbl s3
      have hlbS : b1' < wr.heap.size := by have := hbl.size; omega
      have ht0 : 0 ≤ t := by omega
      have hfin : ∀ (A' : List Ed) (m' : Nat), A' = grp (S.take (k + 1)) → A'.length = m' → m' ≤ k + 1 → (∃ a g, A' = a ++ [g] ∧ g.1.2 = t) → ∀ (v' : Value) (W' : World), W'.ownsRow wS.heap.size 45 3 v' m' (flatE (inv (bts s) 0 A')) → Below wS.heap.size wS W' →
          RbInv s S wS v' (.int .i64 (cur + (x.size : Int) - (t - f))) (.int .i64 t) (.int .i64 ((k : Int) + 1)) W' := fun A' m' hA' hAl hm' hex v' W' ho hb =>
        ⟨k + 1, m', A', by go_num, by omega, hide hA', hide hAl, hm', by rw [HT2.out]; congr 1; omega, ho, .inr ⟨by omega, t, rfl, hide hex⟩, hb⟩
      have HF0 := hide hfin
      clear hfin HT2
      obtain ⟨aV, cV, rfl⟩ := own_slice hrow
      go_wp2
      go_region
      all_goals as_aux_lemma =>
        have hba : Below wr.heap.size wr (wr.alloc (.cells #[.int .i64 (f + cur), .int .i64 (f + cur + (x.size : Int)), .string (s.extract f.toNat t.toNat)] 45)).drew := bl_drew (bl_alloc (bl_refl wr) _)
        obtain ⟨z1, z2, z3⟩ := box3 (heap_drew (heap_alloc_new wr (.cells #[.int .i64 (f + cur), .int .i64 (f + cur + (x.size : Int)), .string (s.extract f.toNat t.toNat)] 45)))
        have hs1 : (wr.alloc (.cells #[.int .i64 (f + cur), .int .i64 (f + cur + (x.size : Int)), .string (s.extract f.toNat t.toNat)] 45)).drew.heap.size = wr.heap.size + 1 := by show (wr.alloc _).heap.size = _; rw [World.size_alloc]
        generalize (wr.alloc (.cells #[.int .i64 (f + cur), .int .i64 (f + cur + (x.size : Int)), .string (s.extract f.toNat t.toNat)] 45)).drew = W1 at *
        have u1 := cell_later hba x1
        have u2 := cell_later hba x2
        have u3 := cell_later hba x3
        have hbl1 := bl_trans hbl hba
        have HROW1 := hide (own_below hrow hba)
        have hszl := hbl.size
        clear x1 x2 x3
        rcases hcase with ⟨hk0, hm0, rfl⟩ | ⟨hk0, g2, rfl, HEX⟩
        · have hn0 : decide ((0 : Int) < (m : Int)) = false := by simp; omega
          have HNEW : stepG A ((f, t), x) = A ++ [((f, t), x)] := by
            have : A = [] := List.eq_nil_of_length_eq_zero (by rw [HM.out, hm0])
            rw [this]; rfl
          clear hrow hk0 hm0
          have hA2 : grp (S.take (k + 1)) = A ++ [((f, t), x)] := by rw [HGS.out]; exact HNEW
          have hie := inv_end (bts s) A ((f, t), x)
          rw [bOf_ext, HTA.out] at hie
          have HF := hide (HF0.out (A ++ [((f, t), x)]) (m + 1) hA2.symm (by rw [List.length_append, HM.out]; rfl) (by omega) ⟨A, _, rfl, rfl⟩)
          have HIE := hide hie
          clear hie hA2 HNEW HF0 HGS HTA HM HA HCG
          go_wp2
          go_quiet (fail)
          have hbq : Below W1.heap.size W1 (W1.drewN nq) := bl_drewN (bl_refl W1) nq
          have z1 := cell_later hbq z1
          have z2 := cell_later hbq z2
          have z3 := cell_later hbq z3
          have u1 := cell_later hbq u1
          have u2 := cell_later hbq u2
          have u3 := cell_later hbq u3
          have hbl1 := bl_trans hbl1 hbq
          have hszq := hbq.size
          have HROW1 := hide (own_below HROW1.out hbq)
          have hbs := hbl1.size
          generalize W1.drewN nq = W2 at *
          go_wp2_with (at_builtin; (go_must (refine wpList_push W2 rfl _ _ 22 rfl wS.heap.size 45 i0 (.agg #[.int .i64 0, .int .i64 0, .string ⟨#[]⟩]) 3 32 Try.underlying22 hi0 hz0' hz1 hz2 rfl (by decide) (.slice aV m cV) m (flatE (inv (bts s) 0 A)) rfl HROW1.out 1 #[.int .i64 (f + cur), .int .i64 (f + cur + (x.size : Int)), .string (s.extract f.toNat t.toNat)] rfl rfl (by simp [Value.oneCell']) (by omega) (by decide) (by omega) ?_)); intro v' W hv4 hg4 hat; have hbW : Below wS.heap.size wS W := bl_own hbl1 HROW1.out hg4 (Nat.le_refl _); have y2 := cell_later hbW s2; have hlbW : b1' < W.heap.size := by have := hbW.size; omega)
          all_goals
            refine ⟨?_, by first | (simp [intOf]; done) | (simp [intOf]; omega)⟩
            have hv5 : W.ownsRow wS.heap.size 45 3 v' (m + 1) (flatE (inv (bts s) 0 (A ++ [((f, t), x)]))) := by rw [HIE.out, flatE_app]; exact hv4
            exact HF.out _ _ hv5 hbW
        · obtain ⟨a, ge, hA, hge⟩ := HEX.out
          obtain ⟨n0, rfl⟩ : ∃ n0, m = n0 + 1 := ⟨a.length, by have h9 := HM.out; rw [hA, List.length_append, List.length_singleton] at h9; exact h9.symm⟩
          have hn0 : decide ((0 : Int) < (n0 : Int) + 1) = true := by first | (simp; done) | (simp; omega)
          by_cases hgf : g2 = f
          · have hgf' : f = g2 := hgf.symm
            subst hgf'
            clear hgf
            have hqd : (f == f) = true := by simp
            clear hk0
            go_wp2
            go_quiet (fail)
            have hbq : Below W1.heap.size W1 (W1.drewN nq) := bl_drewN (bl_refl W1) nq
            have z1 := cell_later hbq z1
            have z2 := cell_later hbq z2
            have z3 := cell_later hbq z3
            have u1 := cell_later hbq u1
            have u2 := cell_later hbq u2
            have u3 := cell_later hbq u3
            have hbl1 := bl_trans hbl1 hbq
            have hszq := hbq.size
            have hbs := hbl1.size
            have hbaq := bl_trans hba hbq
            generalize W1.drewN nq = W2 at *
            obtain ⟨L0, b0, A', n1, k1, k0, k2, k3, k4, k5, k6, k7⟩ := on_facts s A (n0 + 1) f t cur x q1 q2 HM.out HTA.out HCG.out ⟨a, ge, hA, hge⟩
            obtain rfl : n1 = n0 := by omega
            have HF := hide (HF0.out A' (n1 + 1) (by rw [HGS.out]; exact k4.symm) k5 (by omega) k6)
            have hfl := flatE_last2 L0 b0 (f + cur + (x.size : Int)) (b0.2 ++ s.extract f.toNat t.toNat)
            rw [k1, ← k7] at hfl
            have hrow2 := hrow
            rw [k2] at hrow2
            rcases own_form hrow2 with ⟨_, h1, _⟩ | ⟨g, cg, hvv, hg1, hg2, hg3, hg4, hg5⟩
            · omega
            injection hvv with hq1 _ hq2
            subst hq1 hq2
            unfold maxLen at hg4
            have hat2 := flatE_at (L0 ++ [b0]) L0.length (by simp)
            have hget : (L0 ++ [b0])[L0.length]'(by simp) = b0 := by simp
            rw [hget, k1] at hat2
            have y1 := cell_later hbaq (hg5 _ _ hat2.2.1)
            have y2 := cell_later hbaq (hg5 _ _ hat2.2.2)
            have HROW2 := hide (own_below hrow2 hbaq)
            have HFL := hide hfl
            obtain ⟨zz, hzz⟩ : ∃ zz, b0.1.2 = zz := ⟨_, rfl⟩
            obtain ⟨bt, hbt⟩ : ∃ bt, b0.2 = bt := ⟨_, rfl⟩
            rw [hzz] at y1
            rw [hbt] at y2 k3 HFL
            have hex : (s.extract f.toNat t.toNat).size ≤ 1000000 := by rw [ByteArray.size_extract]; omega
            have hlast : IntKind.i64.wrap (((n1 : Int) + 1) - 1) = (n1 : Int) := by rw [IntWalk.i64_in _ (by omega)]; omega
            have hf1 : W2.frozen? ⟨g, n1 * 3 + 1, none⟩ = false := World.ownsRow.frozenAt HROW2.out _
            have hf2 : W2.frozen? ⟨g, n1 * 3 + 2, none⟩ = false := World.ownsRow.frozenAt HROW2.out _
            have hlt1 : g < wr.heap.size := hg2
            have hlt2 : b1' < g := by omega
            clear hat2 hget hfl hrow hrow2 hg5 k1 k2 k4 k5 k6 k7 hzz hbt HF0 HGS HTA HM HA HCG HROW1 hA hge HEX
            go_wp2
            go_region
            all_goals
              go_wp2
              refine ⟨?_, by first | (simp [intOf]; done) | (simp [intOf]; omega)⟩
              have h1 := (World.ownsRow.stored HROW2.out (n1 * 3 + 1) (.int .i64 (f + cur + (x.size : Int)))).1
              have h2 := (World.ownsRow.stored (World.ownsRow.drew h1) (n1 * 3 + 2) (.string (bt ++ s.extract f.toNat t.toNat))).1
              rw [HFL.out] at h2
              exact HF.out _ _ h2 (bl_set (bl_drew (bl_set hbl1 hg1 _)) hg1 _)
          · have hqd : (g2 == f) = false := beq_eq_false_iff_ne.2 hgf
            have HNEW : stepG A ((f, t), x) = A ++ [((f, t), x)] := by
              rw [hA]; exact stepG_new a ge _ (by rw [hge]; exact hgf)
            clear hrow hA hge HEX
            have hA2 : grp (S.take (k + 1)) = A ++ [((f, t), x)] := by rw [HGS.out]; exact HNEW
            have hie := inv_end (bts s) A ((f, t), x)
            rw [bOf_ext, HTA.out] at hie
            have HF := hide (HF0.out (A ++ [((f, t), x)]) (n0 + 1 + 1) hA2.symm (by rw [List.length_append, HM.out]; rfl) (by omega) ⟨A, _, rfl, rfl⟩)
            have HIE := hide hie
            clear hie hA2 HNEW HF0 HGS HTA HM HA HCG
            go_wp2
            go_quiet (fail)
            have hbq : Below W1.heap.size W1 (W1.drewN nq) := bl_drewN (bl_refl W1) nq
            have z1 := cell_later hbq z1
            have z2 := cell_later hbq z2
            have z3 := cell_later hbq z3
            have u1 := cell_later hbq u1
            have u2 := cell_later hbq u2
            have u3 := cell_later hbq u3
            have hbl1 := bl_trans hbl1 hbq
            have hszq := hbq.size
            have HROW1 := hide (own_below HROW1.out hbq)
            have hbs := hbl1.size
            generalize W1.drewN nq = W2 at *
            go_wp2_with (at_builtin; (go_must (refine wpList_push W2 rfl _ _ 22 rfl wS.heap.size 45 i0 (.agg #[.int .i64 0, .int .i64 0, .string ⟨#[]⟩]) 3 32 Try.underlying22 hi0 hz0' hz1 hz2 rfl (by decide) (.slice aV (n0 + 1) cV) (n0 + 1) (flatE (inv (bts s) 0 A)) rfl HROW1.out 1 #[.int .i64 (f + cur), .int .i64 (f + cur + (x.size : Int)), .string (s.extract f.toNat t.toNat)] rfl rfl (by simp [Value.oneCell']) (by omega) (by decide) (by omega) ?_)); intro v' W hv4 hg4 hat; have hbW : Below wS.heap.size wS W := bl_own hbl1 HROW1.out hg4 (Nat.le_refl _); have y2 := cell_later hbW s2; have hlbW : b1' < W.heap.size := by have := hbW.size; omega)
            all_goals
              refine ⟨?_, by first | (simp [intOf]; done) | (simp [intOf]; omega)⟩
              have hv5 : W.ownsRow wS.heap.size 45 3 v' (n0 + 1 + 1) (flatE (inv (bts s) 0 (A ++ [((f, t), x)]))) := by rw [HIE.out, flatE_app]; exact hv4
              exact HF.out _ _ hv5 hbW
    · obtain rfl : k = S.length := by omega
      have hA := HA.out
      rw [List.take_length] at hA
      subst hA
      have hm := HM.out
      rw [HN.out] at hm
      subst hm
      rw [HRES.out] at hrow
      have HROW := hide hrow
      clear hrow HCH HGD hlt hcase HA HM
      go_wp2
      go_ret2
      exact ⟨_, rfl, bl_trans hwS hbl, own_base HROW.out hwS.size⟩
end Go.Proofs.Ytbaaciekjpadfaa
