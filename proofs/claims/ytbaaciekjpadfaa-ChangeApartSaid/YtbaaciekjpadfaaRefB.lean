/- Contract of the reference's Apply of edits: a code, or the text made from the last edit to the first. -/
import Derived.Test.YtbaaciekjpadfaaRefS
import Derived.Test.YtbaaciekjpadfaaRefA
namespace Go.Proofs.Ytbaaciekjpadfaa
open Go.ChangeShapes Go.WideShapes Go.ChangeAt Go.RowKit
open SpanM EdM
attribute [local go_sem ↓] Go.wp_at_zero Go.wp_at_succ
attribute [local go_sem] later_cell later_frozen
theorem sizes_le (l : List Ed) (hx : ∀ e ∈ l, e.2.size ≤ 70000) : sizes l ≤ l.length * 70000 := by
  induction l with
  | nil => simp [sizes]
  | cons a r ih =>
    have e1 : sizes (a :: r) = a.2.size + sizes r := rfl
    have h1 := ih (fun e he => hx e (by simp [he]))
    have h2 := hx a (by simp)
    rw [e1, List.length_cons]; omega
/-- What is there when the edits from q on have been done: it is long enough for the one ahead. -/
theorem drop_size' {l : List Ed} (s : Bs) (hc : Chain s.length 0 l) (hx : ∀ e ∈ l, e.2.size ≤ 70000) (q : Nat) (hq : q < l.length) : 0 ≤ l[q].1.1 ∧ l[q].1.1 ≤ l[q].1.2 ∧ l[q].1.2 ≤ ((appR s (l.drop (q + 1))).length : Int) ∧ ((appR s (l.drop (q + 1))).length : Int) ≤ s.length + l.length * 70000 := by
  have hm := chain_mem hc l[q] (List.getElem_mem hq)
  rw [← List.take_append_drop q l, List.drop_eq_getElem_cons hq] at hc
  have h1 := chain_right hc
  obtain ⟨c1, c2, c3⟩ := h1
  obtain ⟨l1, l2⟩ := appR_len s (l.drop (q + 1)) l[q].1.2 (by omega) c3
  have hle := chain_le c3
  refine ⟨hm.1, hm.2.1, ?_, ?_⟩
  · have := congrArg List.length (l2 l[q].1.2 (Int.le_refl _))
    simp only [List.length_take] at this
    omega
  · have h2 := tot_sizes c3
    have h3 := sizes_le (l.drop (q + 1)) (fun e he => hx e (List.mem_of_mem_drop he))
    rw [List.length_drop] at h3
    omega
theorem bts_cut (U x : ByteArray) (f t : Int) : bts (U.extract 0 f.toNat ++ x ++ U.extract t.toNat U.size) = EdM.one (bts U) ((f, t), x) := by
  have e1 : ∀ a b : ByteArray, bts (a ++ b) = bts a ++ bts b := fun a b => by unfold bts; simp
  rw [e1, e1, bts_ext, bts_ext, List.drop_zero, ← bts_len U, List.take_length]
  rfl
set_option maxHeartbeats 2000000 in
theorem r6apply_no (s : ByteArray) (r : Int) (v : Value) (l : List Ed) (w : World) (h : EdAt w v l) (hl : l.length ≤ 20) (hx : ∀ e ∈ l, e.2.size ≤ 70000) (hs : s.size ≤ 1000000) (hr : mayE s.size l = r) (h0 : r ≠ 0) :
    Calls Try.prog 16 #[.string s, v] w fun e w' => e = .returned (.tuple #[.string ⟨#[]⟩, .int .i64 r]) ∧ Below w.heap.size w w' := by
  have H := hide h
  have HR := hide hr
  have HX := hide hx
  have hne : (r != 0) = true := by simp [h0]
  clear h hr h0 hx
  go_enter Try.func16, Try.ntmps16
  go_wp2_with fail
  refine (r6may_any s.size r v l _ H.out (by omega) HX.out (by omega) HR.out).mono ?_
  rintro e w1 ⟨rfl, hb1⟩
  go_wp2
  go_ret2
  exact ⟨rfl, hb1⟩
set_option maxRecDepth 100000 in
set_option maxHeartbeats 4000000 in
theorem r6apply_yes (s : ByteArray) (R : Bs) (v : Value) (l : List Ed) (w : World) (h : EdAt w v l) (hl : l.length ≤ 20) (hx : ∀ e ∈ l, e.2.size ≤ 70000) (hs : s.size ≤ 1000000) (hf : Fine s.size l) (hR : appR (bts s) (sortE l) = R) :
    Calls Try.prog 16 #[.string s, v] w fun e w' => e = .returned (.tuple #[.string (mkT R), .int .i64 0]) ∧ Below w.heap.size w w' := by
  have H := hide h
  have HC := hide (fine_code hf)
  have HX := hide hx
  have hch := hf.chain
  have hxs : ∀ e ∈ sortE l, e.2.size ≤ 70000 := fun e he => hx e ((sortE_perm l).mem_iff.1 he)
  have hsl := sortE_len l
  have hso := fun W hh => r6sort_any v l W hh (by omega)
  obtain ⟨S, hS⟩ : ∃ S, sortE l = S := ⟨_, rfl⟩
  rw [hS] at hch hxs hsl hR
  have hso' : ∀ W, EdAt W v l → Calls Try.prog 23 #[v] W fun e w' => ∃ v', e = .returned v' ∧ Below W.heap.size W w' ∧ w'.ownsRow W.heap.size 45 3 v' S.length (flatE S) := fun W hh => by
    have := hso W hh
    rw [hS, ← hsl] at this
    exact this
  have HSO := hide hso'
  have hSl : S.length ≤ 20 := by omega
  rw [← bts_len s] at hch
  have hds := drop_size' (bts s) hch hxs
  have HDS := hide hds
  have HSX := hide hxs
  have HR := hide hR
  obtain ⟨i0', hi0'⟩ : ∃ i0, IntKind.i64.wrap ((S.length : Int) - 1) = i0 := ⟨_, rfl⟩
  have hst : (S.length = 0 ∧ i0' = -1) ∨ ∃ q, S.length = q + 1 ∧ i0' = (q : Int) := by
    rw [IntWalk.i64_in _ (by omega)] at hi0'
    rcases Nat.eq_zero_or_pos S.length with h | h
    · exact .inl ⟨h, by omega⟩
    · exact .inr ⟨S.length - 1, by omega, by omega⟩
  have HST := hide hst
  clear h hx hf hch hxs hS hso hso' hds hR hst
  go_enter Try.func16, Try.ntmps16
  go_wp2_with fail
  refine (r6may_any s.size 0 v l _ H.out (by omega) HX.out (by omega) HC.out).mono ?_
  rintro e w1 ⟨rfl, hb1⟩
  go_wp2_with fail
  refine (HSO.out _ (edat_below H.out hb1)).mono ?_
  rintro e w4 ⟨v4, rfl, hb4, ho4⟩
  have HE4 := hide (own_edat ho4)
  obtain ⟨aE, cE, rfl⟩ := edat_len HE4.out
  have hb14 := bl_trans hb1 hb4
  clear ho4 HSO HC HX H hb1 hb4
  go_wp2
  go_loopw [0, 8] (fun uv i wr => ∃ j : Nat, j ≤ S.length ∧ ((j = 0 ∧ i = .int .i64 (-1)) ∨ (∃ q : Nat, j = q + 1 ∧ i = .int .i64 q)) ∧ uv = .string (mkT (appR (bts s) (S.drop j))) ∧ Below w4.heap.size w4 wr) (fun _ i _ => (intOf i + 1).toNat)
  case atStart =>
    refine ⟨S.length, Nat.le_refl _, ?_, by rw [List.drop_length]; show _ = Value.string (mkT (bts s)); rw [mk_bts], bl_refl w4⟩
    rcases HST.out with ⟨h1, h2⟩ | ⟨q, h1, h2⟩
    · exact .inl ⟨h1, by congr 1; omega⟩
    · exact .inr ⟨q, h1, by congr 1; omega⟩
  case round =>
    obtain ⟨j, hj, hcase, rfl, hbl⟩ := hrel
    rcases hcase with ⟨rfl, rfl⟩ | ⟨q, rfl, rfl⟩
    · rw [List.drop_zero, HR.out]
      have hbz := bl_trans hb14 hbl
      clear HST HDS HSX HR
      go_wp2
      go_ret2
      exact ⟨rfl, hbz⟩
    · have hq : q < S.length := by omega
      obtain ⟨b1', o1, c1', hv1, hc1, hm1, hlb1, hcell1⟩ := edat_some (edat_below HE4.out hbl) (by omega)
      injection hv1 with hv1 _ hv1c
      subst hv1 hv1c
      unfold maxLen at hm1
      obtain ⟨x1, x2, x3⟩ := hcell1 q hq
      have hstep := app_drop (bts s) S q hq
      obtain ⟨d1, d2, d3, d4⟩ := HDS.out q hq
      have d5 := HSX.out S[q] (List.getElem_mem hq)
      clear hcell1
      generalize S[q] = e0 at *
      obtain ⟨⟨f, t⟩, x⟩ := e0
      replace x1 : wr.cell? ⟨b1', o1 + q * 3, none⟩ = some (.int .i64 f) := x1
      replace x2 : wr.cell? ⟨b1', o1 + q * 3 + 1, none⟩ = some (.int .i64 t) := x2
      replace x3 : wr.cell? ⟨b1', o1 + q * 3 + 2, none⟩ = some (.string x) := x3
      replace d1 : 0 ≤ f := d1
      replace d2 : f ≤ t := d2
      replace d5 : x.size ≤ 70000 := d5
      obtain ⟨U, hU⟩ : ∃ U, mkT (appR (bts s) (S.drop (q + 1))) = U := ⟨_, rfl⟩
      have hUb : bts U = appR (bts s) (S.drop (q + 1)) := by rw [← hU, bts_mk]
      have hUs : U.size = (appR (bts s) (S.drop (q + 1))).length := by rw [← hU, mk_size]
      rw [← hUs] at d3 d4
      rw [bts_len] at d4
      have d3' : t ≤ (U.size : Int) := d3
      have hcut := bts_cut U x f t
      rw [hUb, ← hstep] at hcut
      rw [hU]
      have hnew : U.extract 0 f.toNat ++ x ++ U.extract t.toNat U.size = mkT (appR (bts s) (S.drop q)) := by rw [← hcut, mk_bts]
      have hUl : U.size ≤ 3000000 := by omega
      have hft : f ≤ (U.size : Int) := by omega
      have ht0 : 0 ≤ t := by omega
      have hz1 : (U.extract 0 f.toNat).size ≤ 3000000 := by rw [ByteArray.size_extract]; omega
      have hz2 : (U.extract t.toNat U.size).size ≤ 3000000 := by rw [ByteArray.size_extract]; omega
      have hfin : ∀ W, Below w4.heap.size w4 W → ∀ i, ((q = 0 ∧ i = Value.int .i64 (-1)) ∨ (∃ p : Nat, q = p + 1 ∧ i = .int .i64 p)) → ∃ j : Nat, j ≤ S.length ∧ ((j = 0 ∧ i = .int .i64 (-1)) ∨ (∃ q : Nat, j = q + 1 ∧ i = .int .i64 q)) ∧ Value.string (U.extract 0 f.toNat ++ x ++ U.extract t.toNat U.size) = .string (mkT (appR (bts s) (S.drop j))) ∧ Below w4.heap.size w4 W := fun W hb i hi => ⟨q, by omega, hi, by rw [hnew], hb⟩
      have HFIN := hide hfin
      clear hstep hU hUb hUs d3 d4 hcut hnew hfin
      rcases Nat.eq_zero_or_pos q with h0 | h0
      · subst h0
        rw [Nat.zero_mul, Nat.add_zero] at x1 x2 x3
        go_wp2
        go_quiet (fail)
        go_wp2
        refine ⟨?_, by first | (simp [intOf]; done) | (simp [intOf]; omega)⟩
        exact HFIN.out _ (bl_drewN hbl _) _ (.inl ⟨by first | rfl | trivial, by first | rfl | trivial⟩)
      · obtain ⟨p, rfl⟩ : ∃ p, q = p + 1 := ⟨q - 1, by omega⟩
        have hwp : IntKind.i64.wrap ((p : Int) + 1 - 1) = (p : Int) := by rw [IntWalk.i64_in _ (by omega)]; omega
        go_wp2
        go_quiet (fail)
        go_wp2
        refine ⟨?_, by first | (simp [intOf]; done) | (simp [intOf]; omega)⟩
        exact HFIN.out _ (bl_drewN hbl _) _ (.inr ⟨p, by first | rfl | trivial, by first | rfl | trivial⟩)
end Go.Proofs.Ytbaaciekjpadfaa
