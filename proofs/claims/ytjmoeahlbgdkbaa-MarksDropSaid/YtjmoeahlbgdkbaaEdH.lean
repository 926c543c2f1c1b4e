/- Contract of Back: what turns edits back. Conditions: at most 20 edits of short texts, a short text. -/
import Derived.Test.YtjmoeahlbgdkbaaEdG
import Derived.Test.YtjmoeahlbgdkbaaEdP
import Derived.RegionTactic
import Derived.Deep.DeepMust
namespace Go.Proofs.Ytjmoeahlbgdkbaa
open Go.ChangeShapes Go.WideShapes Go.ChangeAt Go.RowKit
open SpanM EdM
attribute [local go_sem ↓] Go.wp_at_zero Go.wp_at_succ
attribute [local go_sem] later_cell later_frozen
set_option maxRecDepth 100000 in
set_option maxHeartbeats 2000000 in
theorem back_no (s : ByteArray) (r : Int) (v : Value) (l : List Ed) (w : World) (h : EdAt w v l) (hl : l.length ≤ 20) (hx : ∀ e ∈ l, e.2.size ≤ 70000) (hs : s.size ≤ 1000000) (hr : mayE s.size l = r) (h0 : r ≠ 0) :
    Calls Try.prog 30 #[.string s, v] w fun e w' => e = .returned (.tuple #[.slice none 0 0, .int .i64 r]) ∧ Below w.heap.size w w' := by
  have H := hide h
  have HR := hide hr
  have HX := hide hx
  have hne : (r != 0) = true := by simp [h0]
  clear h hr h0 hx
  go_enter Try.func30, Try.ntmps30
  go_wp2_with fail
  refine (may6e_any s.size r v l _ H.out (by omega) HX.out (by omega) HR.out).mono ?_
  rintro e w1 ⟨rfl, hb1⟩
  go_wp2
  go_ret2
  exact ⟨rfl, hb1⟩
theorem box3 {W : World} {n : Nat} {f t : Int} {x : ByteArray} {e : TypeId} (h : W.heap[n]? = some (.cells #[.int .i64 f, .int .i64 t, .string x] e (0, 0))) : W.cell? ⟨n, 0, none⟩ = some (.int .i64 f) ∧ W.cell? ⟨n, 1, none⟩ = some (.int .i64 t) ∧ W.cell? ⟨n, 2, none⟩ = some (.string x) := by
  refine ⟨?_, ?_, ?_⟩ <;> simp [World.cell?, h]
def zeroE (e : Ed) : Ed := ((e.1.1, e.1.1), ⟨#[]⟩)
/-- The last one made longer, its text told. -/
def lastE (b : Ed) (n : Int) (y : ByteArray) : Ed := ((b.1.1, b.1.2 + n), y)
theorem inv_new (s : Bs) (A : List Ed) (e : Ed) (d : Int) : inv s d (A ++ [e]) = inv s d A ++ [lastE ((e.1.1 + (d + tot A), e.1.1 + (d + tot A)), ⟨#[]⟩) (len e) (mkT ((s.take e.1.2.toNat).drop e.1.1.toNat))] := by
  rw [inv_app, inv_cons]; rfl
theorem inv_on (s : Bs) (A : List Ed) (g e : Ed) (d : Int) : ∃ b, inv s d (A ++ [g]) = inv s d A ++ [b] ∧ inv s d (A ++ [joinE g e]) = inv s d A ++ [lastE b (len e) (mkT ((s.take e.1.2.toNat).drop g.1.1.toNat))] := by
  refine ⟨((g.1.1 + (d + tot A), g.1.1 + (d + tot A) + len g), mkT ((s.take g.1.2.toNat).drop g.1.1.toNat)), by rw [inv_app, inv_cons]; rfl, ?_⟩
  rw [inv_app, inv_cons, len_join]
  show _ ++ [((g.1.1 + (d + tot A), g.1.1 + (d + tot A) + (len g + len e)), _)] = _ ++ [((g.1.1 + (d + tot A), g.1.1 + (d + tot A) + len g + len e), _)]
  rw [Int.add_assoc (g.1.1 + (d + tot A))]
  rfl
theorem flatE_last (L0 : List Ed) (b : Ed) (n : Int) (y : ByteArray) : ((flatE (L0 ++ [b])).set (L0.length * 3 + 1) (.int .i64 (b.1.2 + n))).set (L0.length * 3 + 2) (.string y) = flatE (L0 ++ [lastE b n y]) := by
  have hget : (L0 ++ [b])[L0.length]'(by simp) = b := by simp
  have hset1 := flatE_set1 (L0 ++ [b]) L0.length (by simp) (b.1.2 + n)
  rw [hget] at hset1
  have e7 : (L0 ++ [b]).set L0.length ((b.1.1, b.1.2 + n), b.2) = L0 ++ [((b.1.1, b.1.2 + n), b.2)] := by simp
  rw [hset1, e7]
  have hset2 := flatE_set2 (L0 ++ [((b.1.1, b.1.2 + n), b.2)]) L0.length (by simp) y
  have hget2 : (L0 ++ [((b.1.1, b.1.2 + n), b.2)])[L0.length]'(by simp) = ((b.1.1, b.1.2 + n), b.2) := by simp
  rw [hget2] at hset2
  rw [hset2]
  unfold lastE
  simp
/-- What a round of Back's loop keeps. -/
def BkInv (s : ByteArray) (S : List Ed) (wS : World) (all fr to gr i : Value) (wr : World) : Prop :=
  ∃ (k m : Nat) (A : List Ed) (f t : Int), i = .int .i64 k ∧ k ≤ S.length ∧ Hid (A = grp (S.take k)) ∧ Hid (A.length = m) ∧ m ≤ k ∧ fr = .int .i64 f ∧ to = .int .i64 t ∧ gr = .int .i64 (tot (S.take k)) ∧
    wr.ownsRow wS.heap.size 61 3 all m (flatE (inv (bts s) 0 A)) ∧ ((k = 0 ∧ m = 0) ∨ (0 < k ∧ Hid (∃ a g, A = a ++ [g] ∧ g.1.1 = f ∧ g.1.2 = t))) ∧ Below wS.heap.size wS wr
set_option maxRecDepth 100000 in
set_option maxHeartbeats 16000000 in
theorem back_yes (s : ByteArray) (v : Value) (l : List Ed) (w : World) (h : EdAt w v l) (hl : l.length ≤ 20) (hx : ∀ e ∈ l, e.2.size ≤ 70000) (hs : s.size ≤ 1000000) (hf : Fine s.size l) :
    Calls Try.prog 30 #[.string s, v] w fun e w' => ∃ v', e = .returned (.tuple #[v', .int .i64 0]) ∧ Below w.heap.size w w' ∧ w'.ownsRow w.heap.size 61 3 v' (grp (sortE l)).length (flatE (inv (bts s) 0 (grp (sortE l)))) := by
  obtain ⟨i0, hi0, hz0', hz1, hz2⟩ := info_parts info_ed
  have hch : Chain s.size 0 (sortE l) := hf.chain
  have hgd : ∀ e ∈ sortE l, GoodD e := fun e he => by
    have he' := (sortE_perm l).mem_iff.1 he
    have := hf.mem e he'
    exact ⟨by omega, by omega, hx e he'⟩
  have H := hide h
  have HR := hide (fine_code hf)
  have HX := hide hx
  have hsl := sortE_len l
  have hord := fun W hh => inorder_any v l W hh hl
  obtain ⟨S, hS⟩ : ∃ S, sortE l = S := ⟨_, rfl⟩
  rw [hS] at hord hch hgd hsl ⊢
  have HORD := hide hord
  have HCH := hide hch
  have HGD := hide hgd
  have hSl : S.length ≤ 20 := by omega
  obtain ⟨RES, hRES⟩ : ∃ RES, flatE (inv (bts s) 0 (grp S)) = RES := ⟨_, rfl⟩
  obtain ⟨N, hN⟩ : ∃ N, (grp S).length = N := ⟨_, rfl⟩
  rw [hRES, hN]
  have HRES := hide hRES
  have HN := hide hN
  clear h hx hf hch hgd hord hS hsl hRES hN
  go_enter Try.func30, Try.ntmps30
  go_wp2_with fail
  refine (may6e_any s.size 0 v l _ H.out (by omega) HX.out (by omega) HR.out).mono ?_
  rintro e w1 ⟨rfl, hb1⟩
  have H1 := hide (edat_below H.out hb1)
  go_wp2_with fail
  refine (HORD.out _ H1.out).mono ?_
  rintro e wS ⟨vS, rfl, hbS, heS⟩
  obtain ⟨aS, cS, rfl⟩ := edat_len heS
  have HS := hide heS
  have hwS : Below w.heap.size w wS := bl_trans hb1 hbS
  clear heS H1 HORD HR HX H hb1 hbS
  go_wp2
  go_loopw [7, 8, 9, 10, 25] (fun all fr to gr i wr => BkInv s S wS all fr to gr i wr) (fun _ _ _ _ i _ => S.length - (intOf i).toNat)
  case atStart => exact ⟨0, 0, [], 0, 0, rfl, Nat.zero_le _, hide rfl, hide rfl, Nat.le_refl _, rfl, rfl, by simp [tot], ⟨rfl, .inl ⟨rfl, rfl⟩⟩, .inl ⟨rfl, rfl⟩, bl_refl wS⟩
  case round =>
    obtain ⟨k, m, A, fr, to, rfl, hk, HA, HM, hmk, rfl, rfl, rfl, hrow, hcase, hbl⟩ := hrel
    by_cases hlt : k < S.length
    · obtain ⟨b1', o1, c1', hv1, hc1, hm1, hlb1, hcell1⟩ := edat_some (edat_below HS.out hbl) (by omega)
      injection hv1 with hv1 _ hv1c
      subst hv1 hv1c
      unfold maxLen at hm1
      obtain ⟨x1, x2, x3⟩ := hcell1 k hlt
      have hsn : S.take (k + 1) = S.take k ++ [S[k]] := List.take_succ_eq_append_getElem hlt
      have hgs := grp_snoc (S.take k) S[k]
      rw [← hsn, ← HA.out] at hgs
      have htot : tot (S.take (k + 1)) = tot (S.take k) + dl S[k] := by rw [hsn, tot_app, tot_one]
      have hchk : Chain s.size 0 (S.take k ++ [S[k]]) := by rw [← hsn]; exact chain_left (b := S.drop (k + 1)) (by rw [List.take_append_drop]; exact HCH.out)
      rw [chain_snoc] at hchk
      obtain ⟨hcA, q1, q2⟩ := hchk
      have hq0 := chain_le hcA
      have hcG := grp_chain (S.take k) hcA
      rw [← HA.out] at hcG
      have hgg := (HGD.out S[k] (List.getElem_mem hlt)).2.2
      have hbd := grown_bd 0 S HGD.out k hk
      have hcur : grown 0 (S.take k) = tot (S.take k) := by rw [grown_add]; omega
      rw [hcur] at hbd
      have htA : tot A = tot (S.take k) := by rw [HA.out, grp_tot]
      have HGS := hide hgs
      have HTOT := hide htot
      have HCG := hide hcG
      have HTA := hide htA
      clear hcell1 hsn hgs htot hcA hcG hcur htA
      obtain ⟨e0, he0⟩ : ∃ e0, S[k] = e0 := ⟨_, rfl⟩
      rw [he0] at HGS HTOT HCG q1 q2 hq0 hgg x1 x2 x3
      have HE0 := hide he0
      clear he0
      obtain ⟨⟨f, t⟩, x⟩ := e0
      replace q1 : f ≤ t := q1
      replace q2 : t ≤ (s.size : Int) := q2
      replace hq0 : 0 ≤ f := hq0
      replace hgg : x.size ≤ 70000 := hgg
      replace x1 : wr.cell? ⟨b1', o1 + k * 3, none⟩ = some (.int .i64 f) := x1
      replace x2 : wr.cell? ⟨b1', o1 + k * 3 + 1, none⟩ = some (.int .i64 t) := x2
      replace x3 : wr.cell? ⟨b1', o1 + k * 3 + 2, none⟩ = some (.string x) := x3
      replace HCG : Hid (Chain f 0 A) := HCG
      have htot2 : tot (S.take (k + 1)) = tot (S.take k) + ((x.size : Int) - (t - f)) := HTOT.out
      have b1 : -4000000000000000000 ≤ f := by omega
      have b2 : f ≤ 4000000000000000000 := by omega
      have b3 : -4000000000000000000 ≤ t := by omega
      have b4 : t ≤ 4000000000000000000 := by omega
      obtain ⟨cur, hcur⟩ : ∃ cur, tot (S.take k) = cur := ⟨_, rfl⟩
      rw [hcur] at hbd htot2 HTA ⊢
      have hc1' : -200000000000000 ≤ cur := by omega
      have hc2' : cur ≤ 200000000000000 := by omega
      have HT2 := hide htot2
      clear hcur htot2 HTOT hbd
      have hw1 : IntKind.i64.wrap ((x.size : Int) - (t - f)) = (x.size : Int) - (t - f) := IntWalk.i64_in _ (by omega)
      have hw2 : IntKind.i64.wrap (cur + ((x.size : Int) - (t - f))) = cur + ((x.size : Int) - (t - f)) := IntWalk.i64_in _ (by omega)
      have yb := heap_alloc_new wr (.cells #[.int .i64 f, .int .i64 t, .string x] 61)
      have hba : Below wr.heap.size wr (wr.alloc (.cells #[.int .i64 f, .int .i64 t, .string x] 61)) := bl_alloc (bl_refl wr) _
      have hsz := hbl.size
      obtain ⟨W1, hW1⟩ : ∃ W1, wr.alloc (.cells #[.int .i64 f, .int .i64 t, .string x] 61) = W1 := ⟨_, rfl⟩
      rw [hW1] at yb hba
      have hbl1 : Below wS.heap.size wS W1 := bl_trans hbl hba
      have hrow1 := own_below hrow hba
      have HLT := hide (fun k h => (hrow.lt k h).2)
      clear hrow
      -- what is left of the round, for either way
      have hfin : ∀ (L0 : List Ed) (b0 : Ed) (m' : Nat) (fr0 : Int) (A' : List Ed), L0.length = m' → m' + 1 ≤ k + 1 → A' = grp (S.take (k + 1)) → A'.length = m' + 1 → (∃ a g, A' = a ++ [g] ∧ g.1.1 = fr0 ∧ g.1.2 = t) →
          L0 ++ [lastE b0 (x.size : Int) (s.extract fr0.toNat t.toNat)] = inv (bts s) 0 A' →
          ∀ (v' : Value) (W' : World), W'.ownsRow wS.heap.size 61 3 v' (m' + 1) (flatE (L0 ++ [lastE b0 (x.size : Int) (s.extract fr0.toNat t.toNat)])) → Below wS.heap.size wS W' →
          BkInv s S wS v' (.int .i64 fr0) (.int .i64 t) (.int .i64 (cur + ((x.size : Int) - (t - f)))) (.int .i64 ((k : Int) + 1)) W' := by
        intro L0 b0 m' fr0 A' hL0 hm' hA' hAl hex hin v' W' ho hb
        rw [hin] at ho
        exact ⟨k + 1, m' + 1, A', fr0, t, by go_num, by omega, hide hA', hide hAl, hm', rfl, rfl, by rw [HT2.out], ho, .inr ⟨by omega, hide hex⟩, hb⟩
      have HF0 := hide hfin
      clear hfin HT2
      -- a new group
      have hnew : (m = 0 ∨ ∃ a g, A = a ++ [g] ∧ g.1.2 ≠ f) → stepG A ((f, t), x) = A ++ [((f, t), x)] := by
        rintro (h | ⟨a, g, h, hne⟩)
        · have : A = [] := List.eq_nil_of_length_eq_zero (by rw [HM.out, h])
          rw [this]; rfl
        · rw [h]; exact stepG_new a g _ hne
      have HNEW := hide hnew
      clear hnew
      have way1 : (m = 0 ∨ ∃ a g, A = a ++ [g] ∧ g.1.2 ≠ f) → ∀ (v' : Value) (W' : World), W'.ownsRow wS.heap.size 61 3 v' (m + 1) (flatE (inv (bts s) 0 A ++ [lastE ((f + cur, f + cur), ⟨#[]⟩) (x.size : Int) (s.extract f.toNat t.toNat)])) → Below wS.heap.size wS W' →
          BkInv s S wS v' (.int .i64 f) (.int .i64 t) (.int .i64 (cur + ((x.size : Int) - (t - f)))) (.int .i64 ((k : Int) + 1)) W' := by
        intro hh
        have e1 := HNEW.out hh
        rw [← HGS.out] at e1
        have e2 := inv_new (bts s) A ((f, t), x) 0
        rw [HTA.out] at e2
        have e3 : mkT (((bts s).take t.toNat).drop f.toNat) = s.extract f.toNat t.toNat := by rw [← bts_ext, mk_bts]
        refine HF0.out (inv (bts s) 0 A) ((f + cur, f + cur), ⟨#[]⟩) m f (A ++ [((f, t), x)]) (by rw [inv_len, HM.out]) (by omega) e1.symm (by simp [HM.out]) ⟨A, _, rfl, rfl, rfl⟩ ?_
        rw [e2, Int.zero_add]
        show _ = inv (bts s) 0 A ++ [lastE ((f + cur, f + cur), ⟨#[]⟩) (x.size : Int) (mkT (((bts s).take t.toNat).drop f.toNat))]
        rw [e3]
      have HW1 := hide way1
      clear way1
      have hcl : (inv (bts s) 0 A).length = m := by rw [inv_len, HM.out]
      have HCL := hide hcl
      clear hcl
      have hm1000 : m ≤ 1000 := by omega
      obtain ⟨aV, cV, rfl⟩ := own_slice hrow1
      by_cases hfirst : k = 0 ∨ f ≠ to
      · have hway : m = 0 ∨ ∃ a g, A = a ++ [g] ∧ g.1.2 ≠ f := by
          rcases hcase with ⟨_, h0⟩ | ⟨h0, hex⟩
          · exact .inl h0
          · obtain ⟨a, g, e1, _, e3⟩ := hex.out
            rcases hfirst with h1 | h1
            · omega
            · exact .inr ⟨a, g, e1, by rw [e3]; exact Ne.symm h1⟩
        have HFIN := hide (HW1.out hway)
        have hw0 : IntKind.i64.wrap (f + cur) = f + cur := IntWalk.i64_in _ (by omega)
        clear HW1 HNEW HF0 HGS hway hcase
        have HL0 := HCL
        have x1' : W1.cell? ⟨wr.heap.size, 0, none⟩ = some (.int .i64 f) := by simp [World.cell?, yb]
        have x2' : W1.cell? ⟨wr.heap.size, 1, none⟩ = some (.int .i64 t) := by simp [World.cell?, yb]
        by_cases hk0 : k = 0
        · have hkd : ((k : Int) == 0) = true := by simp [hk0]
          clear hfirst hk0
          go_wp2_with (at_builtin; (go_must (refine wpList_push W1 rfl _ _ 35 rfl wS.heap.size 61 i0 (.agg #[.int .i64 0, .int .i64 0, .string ⟨#[]⟩]) 3 32 Try.underlying35 hi0 hz0' hz1 hz2 rfl (by decide) (.slice aV m cV) m (flatE (inv (bts s) 0 A)) rfl hrow1 1 #[.int .i64 (f + cur), .int .i64 (f + cur), .string ⟨#[]⟩] rfl rfl (by simp [Value.oneCell']) (by omega) (by decide) (by have := hbl1.size; omega) ?_)); intro v' W hv4 hg4 hat; have hbox := (hg4.block wr.heap.size (Array.getElem?_eq_some_iff.1 yb).1 (fun e => absurd (HLT.out _ e.symm) (Nat.lt_irrefl _))).trans yb; obtain ⟨y1, y2, y3⟩ := box3 hbox)
          have hWl : Below wS.heap.size wS W := bl_own hbl1 hrow1 hg4 (Nat.le_refl _)
          obtain ⟨b0, hb0⟩ : ∃ b0 : Ed, ((f + cur, f + cur), (⟨#[]⟩ : ByteArray)) = b0 := ⟨_, rfl⟩
          have hqa : -1000000000000000 ≤ b0.1.2 := by rw [← hb0]; show _ ≤ f + cur; omega
          have hqb : b0.1.2 ≤ 1000000000000000 := by rw [← hb0]; show f + cur ≤ _; omega
          have hrow : W.ownsRow wS.heap.size 61 3 v' (m + 1) (flatE (inv (bts s) 0 A ++ [b0])) := by rw [flatE_app, ← hb0]; exact hv4
          rw [hb0] at HFIN
          clear hv4 hg4 hat hrow1 hb0 yb hw0 hba hbl1 hW1 x1' x2'
          have HFIN := hide HFIN.out
          generalize inv (bts s) 0 A = L0 at *
          rcases own_form hrow with ⟨_, h1, _⟩ | ⟨g, cg, hvv, hg1, hg2, hg3, hg4, hg5⟩
          · omega
          subst hvv
          unfold maxLen at hg4
          have hat2 := flatE_at (L0 ++ [b0]) L0.length (by simp)
          have hget : (L0 ++ [b0])[L0.length]'(by simp) = b0 := by simp
          rw [hget, HL0.out] at hat2
          have z2 := hg5 _ _ hat2.2.1
          have z3 := hg5 _ _ hat2.2.2
          have hlast : IntKind.i64.wrap (((m : Int) + 1) - 1) = (m : Int) := by rw [IntWalk.i64_in _ (by omega)]; omega
          have HROW := hide hrow
          have hWs := hWl.size
          have hblk : wr.heap.size < W.heap.size := (Array.getElem?_eq_some_iff.1 hbox).1
          clear hg5 hat2 hget hrow hbox
          refine wp_region_later (by kernel_rfl) (by kernel_rfl) ?_
          repeat (go_big_quiet_step (first | (go_at_call 54; exact later_call (slene_any (f, t) (t - f) _ b1 b2 b3 b4 rfl)) | exact rfl))
          refine wpQuiet_nil ?_
          rintro w9 ⟨⟨_, hb9⟩, rfl⟩
          have hW9 : Below wS.heap.size wS w9 := bl_trans hWl hb9
          have u3 := cell_later hb9 y3
          have u2 := cell_later hb9 z2
          have u4 := cell_later hb9 z3
          have HROW9 := hide (own_below HROW.out hb9)
          have hf1 : w9.frozen? ⟨g, m * 3 + 1, none⟩ = false := World.ownsRow.frozenAt HROW9.out _
          have hf2 : w9.frozen? ⟨g, m * 3 + 2, none⟩ = false := World.ownsRow.frozenAt HROW9.out _
          clear y1 y2 y3 z2 z3 HROW hb9
          have fin : ∀ W', (W' = (w9.drew.setCell ⟨g, m * 3 + 1, none⟩ (.int .i64 (b0.1.2 + (x.size : Int)))).setCell ⟨g, m * 3 + 2, none⟩ (.string (s.extract f.toNat t.toNat))) → BkInv s S wS (.slice (some ⟨g, 0, none⟩) (m + 1) cg) (.int .i64 f) (.int .i64 t) (.int .i64 (cur + ((x.size : Int) - (t - f)))) (.int .i64 ((k : Int) + 1)) W' := by
            rintro W' rfl
            have h1 := (World.ownsRow.stored (World.ownsRow.drew HROW9.out) (m * 3 + 1) (.int .i64 (b0.1.2 + (x.size : Int)))).1
            have h2 := (World.ownsRow.stored h1 (m * 3 + 2) (.string (s.extract f.toNat t.toNat))).1
            have h3 := flatE_last L0 b0 (x.size : Int) (s.extract f.toNat t.toNat)
            rw [HL0.out] at h3
            rw [h3] at h2
            exact HFIN.out _ _ h2 (bl_set (bl_set (bl_drew hW9) hg1 _) hg1 _)
          have FIN := hide fin
          have hq1 : IntKind.i64.wrap (b0.1.2 + (x.size : Int)) = b0.1.2 + (x.size : Int) := IntWalk.i64_in _ (by omega)
          clear fin HFIN HROW9 HL0
          generalize b0.1.2 = q0 at *
          go_wp2
          go_region
          all_goals
            go_wp2
            refine ⟨?_, by first | (simp [intOf]; done) | (simp [intOf]; omega)⟩
            exact FIN.out _ rfl
        · have hkd : ((k : Int) == 0) = false := by simp [hk0]
          have hfd : (f != to) = true := by
            rcases hfirst with h1 | h1
            · exact absurd h1 hk0
            · simp [h1]
          clear hfirst hk0
          go_wp2_with (at_builtin; (go_must (refine wpList_push W1 rfl _ _ 35 rfl wS.heap.size 61 i0 (.agg #[.int .i64 0, .int .i64 0, .string ⟨#[]⟩]) 3 32 Try.underlying35 hi0 hz0' hz1 hz2 rfl (by decide) (.slice aV m cV) m (flatE (inv (bts s) 0 A)) rfl hrow1 1 #[.int .i64 (f + cur), .int .i64 (f + cur), .string ⟨#[]⟩] rfl rfl (by simp [Value.oneCell']) (by omega) (by decide) (by have := hbl1.size; omega) ?_)); intro v' W hv4 hg4 hat; have hbox := (hg4.block wr.heap.size (Array.getElem?_eq_some_iff.1 yb).1 (fun e => absurd (HLT.out _ e.symm) (Nat.lt_irrefl _))).trans yb; obtain ⟨y1, y2, y3⟩ := box3 hbox)
          have hWl : Below wS.heap.size wS W := bl_own hbl1 hrow1 hg4 (Nat.le_refl _)
          obtain ⟨b0, hb0⟩ : ∃ b0 : Ed, ((f + cur, f + cur), (⟨#[]⟩ : ByteArray)) = b0 := ⟨_, rfl⟩
          have hqa : -1000000000000000 ≤ b0.1.2 := by rw [← hb0]; show _ ≤ f + cur; omega
          have hqb : b0.1.2 ≤ 1000000000000000 := by rw [← hb0]; show f + cur ≤ _; omega
          have hrow : W.ownsRow wS.heap.size 61 3 v' (m + 1) (flatE (inv (bts s) 0 A ++ [b0])) := by rw [flatE_app, ← hb0]; exact hv4
          rw [hb0] at HFIN
          clear hv4 hg4 hat hrow1 hb0 yb hw0 hba hbl1 hW1 x1' x2'
          have HFIN := hide HFIN.out
          generalize inv (bts s) 0 A = L0 at *
          rcases own_form hrow with ⟨_, h1, _⟩ | ⟨g, cg, hvv, hg1, hg2, hg3, hg4, hg5⟩
          · omega
          subst hvv
          unfold maxLen at hg4
          have hat2 := flatE_at (L0 ++ [b0]) L0.length (by simp)
          have hget : (L0 ++ [b0])[L0.length]'(by simp) = b0 := by simp
          rw [hget, HL0.out] at hat2
          have z2 := hg5 _ _ hat2.2.1
          have z3 := hg5 _ _ hat2.2.2
          have hlast : IntKind.i64.wrap (((m : Int) + 1) - 1) = (m : Int) := by rw [IntWalk.i64_in _ (by omega)]; omega
          have HROW := hide hrow
          have hWs := hWl.size
          have hblk : wr.heap.size < W.heap.size := (Array.getElem?_eq_some_iff.1 hbox).1
          clear hg5 hat2 hget hrow hbox
          refine wp_region_later (by kernel_rfl) (by kernel_rfl) ?_
          repeat (go_big_quiet_step (first | (go_at_call 54; exact later_call (slene_any (f, t) (t - f) _ b1 b2 b3 b4 rfl)) | exact rfl))
          refine wpQuiet_nil ?_
          rintro w9 ⟨⟨_, hb9⟩, rfl⟩
          have hW9 : Below wS.heap.size wS w9 := bl_trans hWl hb9
          have u3 := cell_later hb9 y3
          have u2 := cell_later hb9 z2
          have u4 := cell_later hb9 z3
          have HROW9 := hide (own_below HROW.out hb9)
          have hf1 : w9.frozen? ⟨g, m * 3 + 1, none⟩ = false := World.ownsRow.frozenAt HROW9.out _
          have hf2 : w9.frozen? ⟨g, m * 3 + 2, none⟩ = false := World.ownsRow.frozenAt HROW9.out _
          clear y1 y2 y3 z2 z3 HROW hb9
          have fin : ∀ W', (W' = (w9.drew.setCell ⟨g, m * 3 + 1, none⟩ (.int .i64 (b0.1.2 + (x.size : Int)))).setCell ⟨g, m * 3 + 2, none⟩ (.string (s.extract f.toNat t.toNat))) → BkInv s S wS (.slice (some ⟨g, 0, none⟩) (m + 1) cg) (.int .i64 f) (.int .i64 t) (.int .i64 (cur + ((x.size : Int) - (t - f)))) (.int .i64 ((k : Int) + 1)) W' := by
            rintro W' rfl
            have h1 := (World.ownsRow.stored (World.ownsRow.drew HROW9.out) (m * 3 + 1) (.int .i64 (b0.1.2 + (x.size : Int)))).1
            have h2 := (World.ownsRow.stored h1 (m * 3 + 2) (.string (s.extract f.toNat t.toNat))).1
            have h3 := flatE_last L0 b0 (x.size : Int) (s.extract f.toNat t.toNat)
            rw [HL0.out] at h3
            rw [h3] at h2
            exact HFIN.out _ _ h2 (bl_set (bl_set (bl_drew hW9) hg1 _) hg1 _)
          have FIN := hide fin
          have hq1 : IntKind.i64.wrap (b0.1.2 + (x.size : Int)) = b0.1.2 + (x.size : Int) := IntWalk.i64_in _ (by omega)
          clear fin HFIN HROW9 HL0
          generalize b0.1.2 = q0 at *
          go_wp2
          go_region
          all_goals
            go_wp2
            refine ⟨?_, by first | (simp [intOf]; done) | (simp [intOf]; omega)⟩
            exact FIN.out _ rfl
      · have hk1 : 0 < k := by omega
        have hft : f = to := by
          by_cases h : f = to
          · exact h
          · exact absurd (.inr h) hfirst
        subst hft
        have hex : ∃ a g, A = a ++ [g] ∧ g.1.1 = fr ∧ g.1.2 = f := by
          rcases hcase with ⟨h0, _⟩ | ⟨_, hex⟩
          · omega
          · exact hex.out
        obtain ⟨a, g0, hAg, hgf, hgt⟩ := hex
        obtain ⟨b0, hi1, hi2⟩ := inv_on (bts s) a g0 ((f, t), x) 0
        have hst : stepG A ((f, t), x) = a ++ [joinE g0 ((f, t), x)] := by rw [hAg]; exact stepG_on a g0 _ hgt
        rw [← HGS.out] at hst
        have hmA : a.length + 1 = m := by have := HM.out; rw [hAg] at this; simpa using this
        obtain ⟨mm, rfl⟩ : ∃ mm, m = mm + 1 := ⟨m - 1, by omega⟩
        have hb0 : b0 ∈ inv (bts s) 0 A := by rw [hAg, hi1]; simp
        have hbm := chain_mem (inv_chain (bts s) A (d := 0) HCG.out) b0 hb0
        rw [HTA.out] at hbm
        have hqa : -1000000000000000 ≤ b0.1.2 := by omega
        have hqb : b0.1.2 ≤ 1000000000000000 := by omega
        have hfr1 : 0 ≤ fr := by
          have := chain_mem HCG.out g0 (by rw [hAg]; simp)
          omega
        have hfr2 : fr ≤ t := by
          have := chain_mem HCG.out g0 (by rw [hAg]; simp)
          omega
        have hrow : W1.ownsRow wS.heap.size 61 3 (.slice aV (mm + 1) cV) (mm + 1) (flatE (inv (bts s) 0 a ++ [b0])) := by rw [← hi1, ← hAg]; exact hrow1
        have hLl : (inv (bts s) 0 a).length = mm := by rw [inv_len]; omega
        have e3 : mkT (((bts s).take t.toNat).drop fr.toNat) = s.extract fr.toNat t.toNat := by rw [← bts_ext, mk_bts]
        have hin : inv (bts s) 0 a ++ [lastE b0 (x.size : Int) (s.extract fr.toNat t.toNat)] = inv (bts s) 0 (a ++ [joinE g0 ((f, t), x)]) := by
          rw [hi2, ← e3, ← hgf]; rfl
        have HFIN := hide (HF0.out (inv (bts s) 0 a) b0 mm fr (a ++ [joinE g0 ((f, t), x)]) hLl (by omega) hst.symm (by simp; omega) ⟨a, _, rfl, hgf, rfl⟩ hin)
        have HL0 := hide hLl
        have hkd : ((k : Int) == 0) = false := by simp; omega
        have hfd : (f != f) = false := by simp
        have hWl := hbl1
        have hbox := yb
        obtain ⟨W, hWW⟩ : ∃ W, W1 = W := ⟨_, rfl⟩
        rw [hWW] at hrow hWl hbox hW1
        have x1' : W.cell? ⟨wr.heap.size, 0, none⟩ = some (.int .i64 f) := by simp [World.cell?, hbox]
        clear hin e3 hLl hbm hb0 hmA hst hi1 hi2 hAg hgf hgt hrow1 hbl1 yb hba hWW HW1 HF0 HNEW HGS HCG HTA HA HM HCL hfirst hcase
        generalize inv (bts s) 0 a = L0 at *
        rcases own_form hrow with ⟨_, h1, _⟩ | ⟨g, cV, hvv, hg1, hg2, hg3, hg4, hg5⟩
        · omega
        injection hvv with hq1 _ hq2
        subst hq1 hq2
        unfold maxLen at hg4
        have hat2 := flatE_at (L0 ++ [b0]) L0.length (by simp)
        have hget : (L0 ++ [b0])[L0.length]'(by simp) = b0 := by simp
        rw [hget, HL0.out] at hat2
        have z2 := hg5 _ _ hat2.2.1
        have z3 := hg5 _ _ hat2.2.2
        have y1 : W.cell? ⟨wr.heap.size, 0, none⟩ = some (.int .i64 f) := by simp [World.cell?, hbox]
        have y2 : W.cell? ⟨wr.heap.size, 1, none⟩ = some (.int .i64 t) := by simp [World.cell?, hbox]
        have y3 : W.cell? ⟨wr.heap.size, 2, none⟩ = some (.string x) := by simp [World.cell?, hbox]
        have hlast : IntKind.i64.wrap (((mm : Int) + 1) - 1) = (mm : Int) := by rw [IntWalk.i64_in _ (by omega)]; omega
        have HROW := hide hrow
        have hWs := hWl.size
        have hblk : wr.heap.size < W.heap.size := (Array.getElem?_eq_some_iff.1 hbox).1
        clear hg5 hat2 hget hrow hbox
        go_wp2
        refine wp_region_later (by kernel_rfl) (by kernel_rfl) ?_
        repeat (go_big_quiet_step (first | (go_at_call 54; exact later_call (slene_any (f, t) (t - f) _ b1 b2 b3 b4 rfl)) | exact rfl))
        refine wpQuiet_nil ?_
        rintro w9 ⟨⟨_, hb9⟩, rfl⟩
        have hW9 : Below wS.heap.size wS w9 := bl_trans hWl hb9
        have u3 := cell_later hb9 y3
        have u2 := cell_later hb9 z2
        have u4 := cell_later hb9 z3
        have HROW9 := hide (own_below HROW.out hb9)
        have hf1 : w9.frozen? ⟨g, mm * 3 + 1, none⟩ = false := World.ownsRow.frozenAt HROW9.out _
        have hf2 : w9.frozen? ⟨g, mm * 3 + 2, none⟩ = false := World.ownsRow.frozenAt HROW9.out _
        clear y1 y2 y3 z2 z3 HROW hb9
        have fin : ∀ W', (W' = (w9.drew.setCell ⟨g, mm * 3 + 1, none⟩ (.int .i64 (b0.1.2 + (x.size : Int)))).setCell ⟨g, mm * 3 + 2, none⟩ (.string (s.extract fr.toNat t.toNat))) → BkInv s S wS (.slice (some ⟨g, 0, none⟩) (mm + 1) cV) (.int .i64 fr) (.int .i64 t) (.int .i64 (cur + ((x.size : Int) - (t - f)))) (.int .i64 ((k : Int) + 1)) W' := by
          rintro W' rfl
          have h1 := (World.ownsRow.stored (World.ownsRow.drew HROW9.out) (mm * 3 + 1) (.int .i64 (b0.1.2 + (x.size : Int)))).1
          have h2 := (World.ownsRow.stored h1 (mm * 3 + 2) (.string (s.extract fr.toNat t.toNat))).1
          have h3 := flatE_last L0 b0 (x.size : Int) (s.extract fr.toNat t.toNat)
          rw [HL0.out] at h3
          rw [h3] at h2
          exact HFIN.out _ _ h2 (bl_set (bl_set (bl_drew hW9) hg1 _) hg1 _)
        have FIN := hide fin
        have hq1 : IntKind.i64.wrap (b0.1.2 + (x.size : Int)) = b0.1.2 + (x.size : Int) := IntWalk.i64_in _ (by omega)
        clear fin HFIN HROW9 HL0
        generalize b0.1.2 = q0 at *
        go_wp2
        go_region
        all_goals
          go_wp2
          refine ⟨?_, by first | (simp [intOf]; done) | (simp [intOf]; omega)⟩
          exact FIN.out _ rfl
    · obtain rfl : k = S.length := by omega
      have hA := HA.out
      rw [List.take_length] at hA
      subst hA
      have hm := HM.out
      rw [HN.out] at hm
      subst hm
      rw [HRES.out] at hrow
      have HROW := hide hrow
      clear hrow HCH HGD hlt hcase HA HM
      go_wp2
      go_ret2
      exact ⟨_, rfl, bl_trans hwS hbl, own_base HROW.out hwS.size⟩
end Go.Proofs.Ytjmoeahlbgdkbaa
