/- Stretches may be put together in two heaps first: the Union of both heaps' is that of all. Conditions: none beyond the form's own. -/
import Derived.Test.YtepmkpjpdidfkaaRows
import Derived.Test.YtepmkpjpdidfkaaArgs
import Derived.Test.YtepmkpjpdidfkaaSpanH
import Derived.Deep.RegionHeld3
namespace Go.Proofs.Ytepmkpjpdidfkaa.unionAdds
open Go.Proofs.Ytepmkpjpdidfkaa
open Go.ChangeShapes Go.WideShapes Go.ChangeAt Go.RowKit Go.Deep
open Go.ChangeMaps (open_string shut_string)
set_option linter.unusedVariables false

theorem own : ownKnob Try.prog.godebug = none := by kernel_rfl
theorem laidOut : laidOutB Try.prog = true := by kernel_rfl
-- opt:8000000
open SpanM
theorem uniF_le (l : List Sp) : (uniF (sortS l)).length ≤ l.length := by
  have := uniF_len (sortS l) (sortS l).length
  rw [List.take_of_length_le (Nat.le_refl _), sortS_len] at this
  exact this
theorem spans_eq (v u : Value) (l k : List Sp) (w : World) (h : SpAt w v l) (g : SpAt w u k) (hl : l.length ≤ 1000) (hk : k.length ≤ 1000) (e : l = k) :
    Calls Try.prog 22 #[v, u] w fun e w' => e = .returned (.bool true) ∧ Below w.heap.size w w' :=
  (spans_any v u l k w h g hl hk).mono fun _ _ ⟨he, n, hw⟩ => ⟨by rw [he, e]; simp, by rw [hw]; exact bl_drewN (bl_refl w) n⟩
theorem cov_u (l : List Sp) (x : Int) : cov (uniF (sortS l)) x ↔ cov l x :=
  (uni_cov _ (sortS_sorted l) x).trans (cov_mem (fun s => (sortS_perm l).mem_iff) x)
theorem u_adds (l a b : List Sp) (h : ∀ s, (s ∈ a ∨ s ∈ b) ↔ s ∈ l) : uniF (sortS (uniF (sortS a) ++ uniF (sortS b))) = uniF (sortS l) := by
  refine norm_eq _ _ (uni_norm _ (sortS_sorted _)) (uni_norm _ (sortS_sorted _)) fun x => ?_
  rw [cov_u, cov_u, cov_append, cov_u, cov_u, ← cov_append]
  exact cov_mem (fun s => by rw [List.mem_append]; exact h s) x
def Off (v u : Value) : Prop := v.ownBlock = none ∨ u.ownBlock = none ∨ v.ownBlock ≠ u.ownBlock
theorem off_comm {v u : Value} (h : Off v u) : Off u v := by
  rcases h with h | h | h
  · exact .inr (.inl h)
  · exact .inl h
  · exact .inr (.inr (Ne.symm h))
theorem off_push {w : World} {base n : Nat} {v u v' : Value} {xs : List Value} {e : TypeId} {z : Nat} (h : Off v u) (hu : w.ownsRow base e z u n xs) (ha : v'.ownBlock = v.ownBlock ∨ ∃ k, v'.ownBlock = some k ∧ w.heap.size ≤ k) : Off v' u := by
  rcases ha with ha | ⟨k, ha, hk⟩
  · unfold Off; rw [ha]; exact h
  · cases hb : u.ownBlock with
    | none => exact .inr (.inl hb)
    | some g =>
      refine .inr (.inr ?_)
      rw [ha, hb]
      intro e
      have := (World.ownsRow.lt hu g hb).2
      injection e with e
      omega
theorem own_off {w w' : World} {base n : Nat} {v u : Value} {xs : List Value} {e : TypeId} {z : Nat} (h : Off v u) (hu : w.ownsRow base e z u n xs) (hg : w.grownBy w' v.ownBlock) : w'.ownsRow base e z u n xs := by
  rcases h with h | h | h
  · rw [h] at hg
    cases hb : u.ownBlock with
    | none => exact hu.kept hg (.inl hb)
    | some g => exact hu.kept hg (.inr (by rw [hb]; simp))
  · exact hu.kept hg (.inl h)
  · exact hu.kept hg (.inr (Ne.symm h))
set_option maxRecDepth 100000 in
set_option maxHeartbeats 8000000 in
theorem walk (a0 : Value) (l0 : List SpanM.Sp) (a1 : Option Addr) (len1 cap1 : Nat) (z1 : List Bool) (w : World) (w0 : SpAt w a0 l0) (b0 : ∀ s ∈ l0, Wf s) (w1 : IsBools w a1 len1 cap1 z1) :
    Calls Try.prog 10 #[a0, .slice a1 len1 cap1] w fun e w' => e = .returned (.bool true) ∧ Below w.heap.size w w' := by
  by_cases hs : l0.length ≤ 20 ∧ len1 ≤ 20
  · obtain ⟨hs1, hs2⟩ := hs
    obtain ⟨i0, hi0, hz0', hz1, hz2⟩ := info_parts info_sp
    obtain ⟨aA, cA, rfl⟩ := spat_len w0
    have W0 := hide w0
    have hbz := bools_len w1
    have hbc : 0 < len1 → ∃ b off, a1 = some ⟨b, off, none⟩ ∧ len1 ≤ z1.length ∧ len1 ≤ cap1 ∧ cap1 ≤ maxLen ∧ ∀ i, i < z1.length → w.cell? ⟨b, off + i, none⟩ = some (.bool (z1.getD i false)) := fun hp => bools_cell w1 hp
    have HBC := hide hbc
    clear w0 w1 hbc
    go_enter Try.func10, Try.ntmps10
    go_wp2
    go_loopw [5, 6, 7] (fun u v i wr => ∃ (k : Nat) (la lb : List Sp), i = .int .i64 k ∧ k ≤ l0.length ∧ la.length + lb.length = k ∧ Hid (∀ s, (s ∈ la ∨ s ∈ lb) ↔ s ∈ l0.take k) ∧ wr.ownsRow w.heap.size 23 2 u la.length (flat la) ∧ wr.ownsRow w.heap.size 23 2 v lb.length (flat lb) ∧ Off u v ∧ Below w.heap.size w wr)
      (fun _ _ i _ => l0.length - (intOf i).toNat)
    case atStart => exact ⟨0, [], [], rfl, Nat.zero_le _, rfl, hide (by simp), ⟨rfl, .inl ⟨rfl, rfl⟩⟩, ⟨rfl, .inl ⟨rfl, rfl⟩⟩, .inl rfl, bl_refl w⟩
    case round =>
      obtain ⟨k, la, lb, rfl, hk, hsum, HM, hu, hv, hoff, hbl⟩ := hrel
      by_cases hlt : k < l0.length
      · obtain ⟨b1, o1, c1, hv1, hc1, hm1, hlb1, hcell1⟩ := spat_some (spat_below W0.out hbl) (by omega)
        injection hv1 with hv1 _ hv1c
        subst hv1 hv1c
        unfold maxLen at hm1
        obtain ⟨x1, x2⟩ := hcell1 k hlt
        have hma : ∀ s, (s ∈ la ++ [l0[k]] ∨ s ∈ lb) ↔ s ∈ l0.take (k + 1) := fun s => by
          rw [List.take_succ_eq_append_getElem hlt, List.mem_append, List.mem_append, ← HM.out s]
          constructor
          · rintro ((h | h) | h)
            · exact .inl (.inl h)
            · exact .inr h
            · exact .inl (.inr h)
          · rintro ((h | h) | h)
            · exact .inl (.inl h)
            · exact .inr h
            · exact .inl (.inr h)
        have hmb : ∀ s, (s ∈ la ∨ s ∈ lb ++ [l0[k]]) ↔ s ∈ l0.take (k + 1) := fun s => by
          rw [List.take_succ_eq_append_getElem hlt, List.mem_append, List.mem_append, ← HM.out s, or_assoc]
        have HMA := hide hma
        have HMB := hide hmb
        have hbs : w.heap.size ≤ wr.heap.size := hbl.size
        clear hcell1 hma hmb HM
        generalize l0[k] = s at *
        by_cases hkd : k < len1
        · obtain ⟨b2, o2, rfl, hz3, hz4, hz5, hcs⟩ := HBC.out (by omega)
          have hc1 := hcs k (by omega)
          have hc2 := cell_later hbl hc1
          unfold maxLen at hz5
          clear hcs hc1
          generalize z1.getD k false = d at *
          cases d
          · go_wp2_with (at_builtin; (refine wpList_push wr rfl _ _ 29 rfl w.heap.size 23 i0 (.agg #[.int .i64 0, .int .i64 0]) 2 16 Try.underlying29 hi0 hz0' hz1 hz2 rfl (by decide) u6 lb.length (flat lb) rfl hv 1 #[.int .i64 s.1, .int .i64 s.2] rfl rfl (by simp [Value.oneCell']) (by omega) (by decide) hbs ?_); intro v' w4 hv4 hg4 hat)
            have hn4 : w4.ownsRow w.heap.size 23 2 v' (lb ++ [s]).length (flat (lb ++ [s])) := by
              rw [flat_app, List.length_append]; exact hv4
            have ho4 := own_off (off_comm hoff) hu hg4
            have hf4 := off_push (off_comm hoff) hu hat
            have hbl4 : Below w.heap.size w w4 := bl_own hbl hv hg4 (Nat.le_refl _)
            have hs4 : la.length + (lb ++ [s]).length = k + 1 := by simp; omega
            refine ⟨?_, by first | (simp [intOf]; done) | (simp [intOf]; omega)⟩
            first
              | exact ⟨k + 1, la, lb ++ [s], by go_num, by omega, hs4, HMB, ho4, hn4, off_comm hf4, hbl4⟩
              | ((repeat apply Exists.intro); exact ⟨⟨k + 1, la, lb ++ [s], by go_num, by omega, hs4, HMB, ho4, hn4, off_comm hf4, hbl4⟩, rfl⟩)
          · go_wp2_with (at_builtin; (refine wpList_push wr rfl _ _ 29 rfl w.heap.size 23 i0 (.agg #[.int .i64 0, .int .i64 0]) 2 16 Try.underlying29 hi0 hz0' hz1 hz2 rfl (by decide) u5 la.length (flat la) rfl hu 1 #[.int .i64 s.1, .int .i64 s.2] rfl rfl (by simp [Value.oneCell']) (by omega) (by decide) hbs ?_); intro v' w4 hv4 hg4 hat)
            have hn4 : w4.ownsRow w.heap.size 23 2 v' (la ++ [s]).length (flat (la ++ [s])) := by
              rw [flat_app, List.length_append]; exact hv4
            have ho4 := own_off hoff hv hg4
            have hf4 := off_push hoff hv hat
            have hbl4 : Below w.heap.size w w4 := bl_own hbl hu hg4 (Nat.le_refl _)
            have hs4 : (la ++ [s]).length + lb.length = k + 1 := by simp; omega
            refine ⟨?_, by first | (simp [intOf]; done) | (simp [intOf]; omega)⟩
            first
              | exact ⟨k + 1, la ++ [s], lb, by go_num, by omega, hs4, HMA, hn4, ho4, hf4, hbl4⟩
              | ((repeat apply Exists.intro); exact ⟨⟨k + 1, la ++ [s], lb, by go_num, by omega, hs4, HMA, hn4, ho4, hf4, hbl4⟩, rfl⟩)
        · go_wp2_with (at_builtin; (refine wpList_push wr rfl _ _ 29 rfl w.heap.size 23 i0 (.agg #[.int .i64 0, .int .i64 0]) 2 16 Try.underlying29 hi0 hz0' hz1 hz2 rfl (by decide) u6 lb.length (flat lb) rfl hv 1 #[.int .i64 s.1, .int .i64 s.2] rfl rfl (by simp [Value.oneCell']) (by omega) (by decide) hbs ?_); intro v' w4 hv4 hg4 hat)
          have hn4 : w4.ownsRow w.heap.size 23 2 v' (lb ++ [s]).length (flat (lb ++ [s])) := by
            rw [flat_app, List.length_append]; exact hv4
          have ho4 := own_off (off_comm hoff) hu hg4
          have hf4 := off_push (off_comm hoff) hu hat
          have hbl4 : Below w.heap.size w w4 := bl_own hbl hv hg4 (Nat.le_refl _)
          have hs4 : la.length + (lb ++ [s]).length = k + 1 := by simp; omega
          refine ⟨?_, by first | (simp [intOf]; done) | (simp [intOf]; omega)⟩
          first
            | exact ⟨k + 1, la, lb ++ [s], by go_num, by omega, hs4, HMB, ho4, hn4, off_comm hf4, hbl4⟩
            | ((repeat apply Exists.intro); exact ⟨⟨k + 1, la, lb ++ [s], by go_num, by omega, hs4, HMB, ho4, hn4, off_comm hf4, hbl4⟩, rfl⟩)
      · obtain rfl : k = l0.length := by omega
        have hmem : ∀ s, (s ∈ la ∨ s ∈ lb) ↔ s ∈ l0 := by
          have := HM.out
          rw [List.take_of_length_le (Nat.le_refl _)] at this
          exact this
        have HA := hide (u_adds l0 la lb hmem)
        have Hu := hide (own_spat hu)
        have Hv := hide (own_spat hv)
        have Hl := hide (spat_below W0.out hbl)
        obtain ⟨a5, c5, rfl⟩ := own_slice hu
        obtain ⟨a6, c6, rfl⟩ := own_slice hv
        have hA := uniF_le la
        have hB := uniF_le lb
        clear HM hmem hu hv hoff
        go_wp2_with fail
        refine (union_any _ la _ Hu.out (by omega)).mono ?_
        rintro e w2 ⟨va, rfl, hb2, ho2⟩
        have Hv2 := hide (spat_below Hv.out hb2)
        go_wp2_with fail
        refine (union_any _ lb _ Hv2.out (by omega)).mono ?_
        rintro e w3 ⟨vb, rfl, hb3, ho3⟩
        have Hl3 := hide (spat_below (spat_below Hl.out hb2) hb3)
        have ho2' := own_below ho2 hb3
        obtain ⟨A, hAe⟩ : ∃ A, uniF (sortS la) = A := ⟨_, rfl⟩
        obtain ⟨B, hBe⟩ : ∃ B, uniF (sortS lb) = B := ⟨_, rfl⟩
        rw [hAe] at hA ho2' HA
        rw [hBe] at hB ho3 HA
        have hbl3 := bl_trans (bl_trans hbl hb2) hb3
        have hwr : wr.heap.size ≤ w3.heap.size := Nat.le_trans hb2.size hb3.size
        have hbw : w.heap.size ≤ wr.heap.size := hbl.size
        clear hAe hBe ho2 Hu Hv Hv2 Hl hb2 hb3
        rcases own_form ho3 with ⟨rfl, hB0, _⟩ | ⟨g, cg, rfl, hg1, hg2, hg3, hg4, hg5⟩
        · obtain rfl : B = [] := List.eq_nil_of_length_eq_zero hB0
          rcases own_form ho2' with ⟨rfl, hA0, _⟩ | ⟨g2, cg2, rfl, hh1, hh2, hh3, hh4, hh5⟩
          · obtain rfl : A = [] := List.eq_nil_of_length_eq_zero hA0
            have hbl4 := hbl3
            have hn4 : w3.ownsRow wr.heap.size 23 2 (.slice none 0 0) (([] : List Sp) ++ []).length (flat (([] : List Sp) ++ [])) := ⟨rfl, .inl ⟨rfl, rfl⟩⟩
            clear ho2' ho3
            have HC := hide (own_spat hn4)
            have Hl4 := hide (spat_below W0.out hbl4)
            have hAB : (([] : List Sp) ++ []).length ≤ 40 := by rw [List.length_append]; omega
            clear hn4
            go_wp2_with fail
            refine (union_any _ (([] : List Sp) ++ []) _ HC.out (by omega)).mono ?_
            rintro e w5 ⟨v5, rfl, hb5, ho5⟩
            have H5 := hide (own_spat ho5)
            have Hl5 := hide (spat_below Hl4.out hb5)
            clear ho5
            go_wp2_with fail
            refine (union_any _ l0 _ Hl5.out (by omega)).mono ?_
            rintro e w6 ⟨v6, rfl, hb6, ho6⟩
            have H6 := hide (own_spat ho6)
            have H5' := hide (spat_below H5.out hb6)
            clear ho6
            go_wp2_with fail
            refine (spans_eq v5 v6 _ _ _ H5'.out H6.out (by have := uniF_le (([] : List Sp) ++ []); omega) (by have := uniF_le l0; omega) HA.out).mono ?_
            rintro e w7 ⟨rfl, hb7⟩
            go_wp2_with fail
            refine (awake5_any _).mono ?_
            rintro e w8 ⟨rfl, hb8⟩
            go_wp2
            go_ret
            exact ⟨rfl, bl_trans (bl_trans (bl_trans (bl_trans hbl4 hb5) hb6) hb7) hb8⟩
          · clear hh5
            go_wp2_with (at_builtin; (refine wpList_append_fits_any _ rfl _ _ 29 rfl wr.heap.size 23 i0 2 Try.underlying29 hi0 hz1 g2 A.length cg2 (flat A) rfl ho2' none 0 0 [] rfl rfl (fun _ => ⟨rfl, rfl⟩) (by simp) (by simp) (by omega) ?_); intro w4 hv4 hg4)
            have hbl4 : Below w.heap.size w w4 := bl_own hbl3 ho2' hg4 hbw
            have hn4 : w4.ownsRow wr.heap.size 23 2 (.slice (some ⟨g2, 0, none⟩) A.length cg2) (A ++ []).length (flat (A ++ [])) := by
              rw [List.append_nil]; rw [List.append_nil] at hv4; exact hv4
            clear hv4
            have HC := hide (own_spat hn4)
            have Hl4 := hide (spat_below W0.out hbl4)
            have hAB : (A ++ []).length ≤ 40 := by rw [List.length_append]; omega
            clear hn4
            go_wp2_with fail
            refine (union_any _ (A ++ []) _ HC.out (by omega)).mono ?_
            rintro e w5 ⟨v5, rfl, hb5, ho5⟩
            have H5 := hide (own_spat ho5)
            have Hl5 := hide (spat_below Hl4.out hb5)
            clear ho5
            go_wp2_with fail
            refine (union_any _ l0 _ Hl5.out (by omega)).mono ?_
            rintro e w6 ⟨v6, rfl, hb6, ho6⟩
            have H6 := hide (own_spat ho6)
            have H5' := hide (spat_below H5.out hb6)
            clear ho6
            go_wp2_with fail
            refine (spans_eq v5 v6 _ _ _ H5'.out H6.out (by have := uniF_le (A ++ []); omega) (by have := uniF_le l0; omega) HA.out).mono ?_
            rintro e w7 ⟨rfl, hb7⟩
            go_wp2_with fail
            refine (awake5_any _).mono ?_
            rintro e w8 ⟨rfl, hb8⟩
            go_wp2
            go_ret
            exact ⟨rfl, bl_trans (bl_trans (bl_trans (bl_trans hbl4 hb5) hb6) hb7) hb8⟩
        · clear hg5
          have hcell : ∀ j u, (flat B)[j]? = some u → w3.cell? ((⟨g, 0, none⟩ : Addr).add j) = some u := World.ownsRow.cells ho3 rfl
          go_wp2_with (at_builtin; (refine wpList_append_own _ rfl _ _ 29 rfl wr.heap.size 23 i0 (.agg #[.int .i64 0, .int .i64 0]) 2 16 Try.underlying29 hi0 hz0' hz1 hz2 rfl (by decide) va A.length (flat A) rfl ho2' ⟨g, 0, none⟩ B.length cg (flat B) rfl (flat_len B) hcell (flat_one B) (by unfold maxLen; omega) (by omega) hwr ?_); intro vc w4 hv4 hg4 hat)
          have hbl4 : Below w.heap.size w w4 := bl_own hbl3 ho2' hg4 hbw
          have hn4 : w4.ownsRow wr.heap.size 23 2 vc (A ++ B).length (flat (A ++ B)) := by
            rw [flat_app, List.length_append]; exact hv4
          clear hv4
          have HC := hide (own_spat hn4)
          have Hl4 := hide (spat_below W0.out hbl4)
          have hAB : (A ++ B).length ≤ 40 := by rw [List.length_append]; omega
          clear hn4
          go_wp2_with fail
          refine (union_any _ (A ++ B) _ HC.out (by omega)).mono ?_
          rintro e w5 ⟨v5, rfl, hb5, ho5⟩
          have H5 := hide (own_spat ho5)
          have Hl5 := hide (spat_below Hl4.out hb5)
          clear ho5
          go_wp2_with fail
          refine (union_any _ l0 _ Hl5.out (by omega)).mono ?_
          rintro e w6 ⟨v6, rfl, hb6, ho6⟩
          have H6 := hide (own_spat ho6)
          have H5' := hide (spat_below H5.out hb6)
          clear ho6
          go_wp2_with fail
          refine (spans_eq v5 v6 _ _ _ H5'.out H6.out (by have := uniF_le (A ++ B); omega) (by have := uniF_le l0; omega) HA.out).mono ?_
          rintro e w7 ⟨rfl, hb7⟩
          go_wp2_with fail
          refine (awake5_any _).mono ?_
          rintro e w8 ⟨rfl, hb8⟩
          go_wp2
          go_ret
          exact ⟨rfl, bl_trans (bl_trans (bl_trans (bl_trans hbl4 hb5) hb6) hb7) hb8⟩
  · obtain ⟨aA, cA, rfl⟩ := spat_len w0
    go_enter Try.func10, Try.ntmps10
    go_wp2_with (go_at_call 21; refine (awake5_any _).mono ?_; rintro e w1 ⟨rfl, hb1⟩)
    all_goals first
      | (go_ret; exact ⟨rfl, hb1⟩)
      | (exfalso; omega)

set_option maxRecDepth 100000 in
theorem lifted (os : Os) (started : os.Started) (H : Type) (enc : TypeId × Value → H) :
    ReturnsInHanded {} Try.checked os 10 .any (Rows.unionAddsSpec.pre6 enc Try.prog Try.f10 Rows.unionAddsRow.domain false) (Rows.unionAddsSpec.post enc Try.prog Try.f10 false true false false) := by
  refine returnsInHanded_of_change (C := Try.checked) own started (by kernel_rfl) Try.func10
    (ChangeSpec.witness6 (enc := enc) (C := Try.checked) false ⟨#[], #[.slice none 0 0, .slice none 0 0], []⟩ 8 (by kernel_rfl) (by kernel_rfl) (by kernel_rfl) (by kernel_rfl)) ?_
  intro W base args ds gs before hval0 hW hcnd _
  have hval : ∀ (j : Nat) t v, Try.f10.params[j]? = some t → args[j]? = some v → Value.okWide Try.prog W .any base t v := hval0
  have hW' := hW
  obtain ⟨p, q, hA0, hV, rfl, hfz, hnd⟩ := hW
  have hA : DataW.TrodAll enc Try.prog W 0 (fun _ => true) true Try.f10.params.toList args.toList ds p := hA0
  rw [Try.params10] at hA hval
  obtain ⟨v0, vs0, d0, ds0, p0, q0, hargs, rfl, rfl, h0, r0⟩ := trodAll_cons hA
  obtain ⟨v1, vs1, d1, ds1, p1, q1, rfl, rfl, rfl, h1, r1⟩ := trodAll_cons r0
  obtain ⟨rfl, rfl, rfl⟩ := trodAll_nil r1
  obtain rfl : args = #[v0, v1] := by cases args; simp_all
  obtain ⟨rfl, rfl⟩ := trodVars_none hV
  have k0 := h0
  have lt0 : ∀ x ∈ p0, x.block < W.heap.size := by obtain ⟨m, hm⟩ := k0; exact DataW.trod_lt m _ _ _ hm
  obtain ⟨l0, w0, b0⟩ := open_spans (hval 0 29 v0 rfl rfl) h0
  have k1 := h1
  have lt1 : ∀ x ∈ p1, x.block < W.heap.size := by obtain ⟨m, hm⟩ := k1; exact DataW.trod_lt m _ _ _ hm
  obtain ⟨a1, len1, cap1, rfl⟩ := okWide_slice Try.underlying37 (hval 1 37 v1 rfl rfl)
  obtain ⟨z1, w1⟩ : ∃ zs, IsBools W a1 len1 cap1 zs := by
    obtain ⟨fuel, hf⟩ := h1
    rcases open_bools Try.underlying37 Try.underlying4 (by kernel_rfl) hf with ⟨hcs, _⟩ | ⟨x, l, c, B, hcs, _, hl, hm, _, hcell⟩
    · simp [Value.cells] at hcs
      obtain ⟨rfl, rfl, rfl⟩ := hcs
      exact ⟨[], .inl ⟨rfl, rfl, rfl, rfl⟩⟩
    · simp [Value.cells] at hcs
      obtain ⟨rfl, rfl, rfl⟩ := hcs
      exact ⟨(List.range cap1).map B, .inr ⟨_, rfl, hl, hm, by simp, fun i hi => by rw [hcell i (by simpa using hi)]; simp only [List.length_map, List.length_range] at hi; simp [List.getD, hi]⟩⟩
  clear hA0 hval0
  refine (walk v0 l0 a1 len1 cap1 z1 W w0 b0 w1).mono fun e W' ⟨he, bel⟩ => ?_
  subst he
  exact ⟨_, rfl, _, _, _, [], _, [], hW', trodAll_mk1 (shut_bool Try.underlying4 _), (trodAll_cons_mk (Below.trod laidOut (by kernel_rfl) (of_decide_eq_true (by kernel_rfl)) k0 bel lt0) (trodAll_cons_mk (Below.trod laidOut (by kernel_rfl) (of_decide_eq_true (by kernel_rfl)) k1 bel lt1) trodAll_mk0)), rfl, bel.frame _, fun h => by cases h⟩

theorem over : Rows.unionAddsRow.holds Try.pinned (OpenSpec.ofChange Rows.unionAddsSpec) :=
  OpenClaim.holds_of_wide 10 Try.f10 rfl rfl rfl rfl rfl rfl rfl ⟨rfl, rfl, rfl, rfl, rfl⟩ rfl rfl rfl rfl rfl (by kernel_rfl) Try.func10 (by kernel_rfl)
    (of_decide_eq_true (by kernel_rfl)) (by unfold Func.isWrapper; first | (rw [if_pos (by decide +kernel)]; kernel_rfl) | (rw [if_neg (by decide +kernel)]; exact ⟨rfl, rfl⟩))
    (fun os started H enc _ => lifted os started H enc)

theorem proved : Rows.UnionAddsSaid := over
end Go.Proofs.Ytepmkpjpdidfkaa.unionAdds
