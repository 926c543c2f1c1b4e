/- Contract of package marks at a table: Drop, which keeps a set of what is gone. Conditions: few records whose ids rise, numbers of the kind. -/
import Derived.Test.YtjmoeahlbgdkbaaTabQ
import Derived.Maps.OwnSet
import Derived.Maps.OwnOps
namespace Go.Proofs.Ytjmoeahlbgdkbaa
open Go.ChangeShapes Go.WideShapes Go.ChangeAt Go.RowKit Go.Maps
attribute [local go_sem ↓] Go.wp_at_zero Go.wp_at_succ
set_option maxRecDepth 100000
theorem lawI : Keyed Try.prog 3 := int_keyed Try.underlying3
theorem zeroU (w : World) : (zeroValue 86).run Try.prog w = .ok (.agg #[]) w := by kernel_rfl
/-- A literal's entry goes into the map as an update does. -/
theorem wpList_insert_own {H : Type} {P : Program} (w : World) {ops : Array Oper} {rest : List Oper} {o : Oper} {a : Act} {Q : Exit → Act → World → Prop}
    (hg : o.guard = none) (m x v : Operand) (t : TypeId) (hop : o.op = Op.insert t m x v)
    (k e : TypeId) (K : Keyed P k) (ht : P.underlying t = some (.map k e)) (R : Value → Option (DataW H × List MemPlace)) (b n : Nat) (D : DataW H)
    (hm : a.eval m = .map (some b)) (hown : w.ownsMap P k R b n D) (hn : n < maxLen) (key val : Value) (kl : Lit) (hx : a.eval x = key) (hv : a.eval v = val) (hkey : keyOf P k key = some kl)
    (d : DataW H) (ps : List MemPlace) (hval : R val = some (d, ps))
    (hK : ∀ w', w'.ownsMap P k R b (n + 1) (D.put kl d) → w.grownBy w' (some b) → wpList P ops Q rest (a.put o.dst undef) w') :
    wpList P ops Q (o :: rest) a w := by
  refine wpList_plain hg fun K' hK' => ?_
  obtain ⟨w', hrun, r1, r2⟩ := hown.update K ht hn hkey hval
  unfold Oper.wp
  simp [execOp, hop, hm, hx, hv, hrun, Result.andThen]
  exact hK' _ _ (hK w' r1 r2)
def litI (n : Int) : Lit := .int .i64 n
/-- What is gone, as the map reads. -/
def goneD (g : List Int) : DataW Unit := setOf (.agg []) (g.map litI)
theorem gone_snoc (g : List Int) (x : Int) : goneD (g ++ [x]) = (goneD g).put (litI x) (.agg []) := by
  unfold goneD
  rw [List.map_append]
  exact setOf_snoc _ _ _
theorem gone_has (g : List Int) (x : Int) : Maps.has (goneD g) (litI x) = g.contains x := by
  unfold goneD
  rw [has_setOf _ _ _ (fun l hl => by obtain ⟨y, _, rfl⟩ := List.mem_map.1 hl; simp [litI, WideAt.IsKeyLit])]
  rw [List.any_map]
  induction g with
  | nil => rfl
  | cons a r ih =>
    rw [List.any_cons, List.contains_cons, ih]
    congr 1
    simp [litI, Lit.sameKey]
    first | rfl | (rw [Bool.beq_comm]; done) | exact Bool.eq_iff_iff.2 (by simp; exact eq_comm)
def stepD (s : List Int × List Mk) (r : Mk) : List Int × List Mk := if s.1.contains r.id || s.1.contains r.p then (s.1 ++ [r.id], s.2) else (s.1, s.2 ++ [r])
def foldD (x : Int) (l : List Mk) : List Int × List Mk := l.foldl stepD ([x], [])
def dropM (x : Int) (l : List Mk) : List Mk := (foldD x l).2
theorem foldD_take (x : Int) (l : List Mk) (k : Nat) (h : k < l.length) : foldD x (l.take (k + 1)) = stepD (foldD x (l.take k)) l[k] := by
  unfold foldD
  rw [List.take_succ_eq_append_getElem h, List.foldl_append]
  rfl
theorem foldD_len (x : Int) (l : List Mk) : (foldD x l).1.length ≤ l.length + 1 ∧ (foldD x l).2.length ≤ l.length := by
  have key : ∀ (l : List Mk) (s : List Int × List Mk), (l.foldl stepD s).1.length ≤ s.1.length + l.length ∧ (l.foldl stepD s).2.length ≤ s.2.length + l.length := by
    intro l
    induction l with
    | nil => intro s; simp
    | cons r q ih =>
      intro s
      have := ih (stepD s r)
      rw [List.foldl_cons, List.length_cons]
      have h1 : (stepD s r).1.length ≤ s.1.length + 1 ∧ (stepD s r).2.length ≤ s.2.length + 1 := by
        unfold stepD
        split <;> simp
      omega
  have := key l ([x], [])
  unfold foldD
  simp at this
  omega
def DropInv (x : Int) (l : List Mk) (w : World) (kv i : Value) (wr : World) : Prop :=
  ∃ k : Nat, i = .int .i64 k ∧ k ≤ l.length ∧ Hid (wr.ownsMap Try.prog 3 (unitElem (H := Unit)) w.heap.size (foldD x (l.take k)).1.length (goneD (foldD x (l.take k)).1)) ∧ Hid (wr.ownsRow (w.heap.size + 1) 82 6 kv (foldD x (l.take k)).2.length (flatM (foldD x (l.take k)).2)) ∧ Below w.heap.size w wr ∧ w.heap.size + 1 ≤ wr.heap.size
set_option maxHeartbeats 8000000 in
theorem drop_any (base tb : Nat) (last : Int) (v : Value) (l : List Mk) (x : Int) (w : World) (h : Tab w base tb last v l) (hs : RiseM l) (hl : l.length ≤ 100000) (hx : (Lit.int .i64 x).wf = true) (hB : base ≤ w.heap.size)
    (hw : ∀ r ∈ l, (Lit.int .i64 r.id).wf = true ∧ (Lit.int .i64 r.p).wf = true) (hin : ∃ r ∈ l, r.id = x) :
    Calls Try.prog 23 #[.pointer (some ⟨tb, 0, none⟩), .int .i64 x] w fun e w' => e = .returned (.int .i64 0) ∧ (∃ v', Tab w' base tb last v' (dropM x l) ∧ ∀ k, v'.ownBlock = some k → w.heap.size ≤ k) ∧ w.grownBy w' (some tb) := by
  obtain ⟨i0, hi0, hz0', hz1, hz2⟩ := info_parts info_rec
  have HC := hide (find_any base tb last v l x w h hs hl)
  have H := hide h
  have HW := hide hw
  have hmm := @run_makeMap Try.prog
  clear h hs hw
  go_enter Try.func23, Try.ntmps23
  go_wp2_with fail
  refine HC.out.mono ?_
  rintro e w1 ⟨⟨i, ok, rfl, hfo⟩, hb1⟩
  have H1 := hide (H.out.later hb1)
  rcases hfo with ⟨rfl, hi, hid⟩ | ⟨rfl, hno⟩
  case inr =>
    obtain ⟨r, hr, e⟩ := hin
    exact absurd e (hno r hr)
  rcases H1.out.form with ⟨rfl, rfl⟩ | ⟨g, c, rfl, hg1, hg2, hg3, hg4, hg5⟩
  · simp at hi
  unfold maxLen at hg4
  have hmade := World.ownsMap_made w1 Try.prog 3 (unitElem (H := Unit))
  have T1 := hide (H1.out.later (bl_alloc (bl_refl w1) (.map #[] 0)))
  obtain ⟨d0, d1, _, _⟩ := cells2 H1.out.at0
  clear HC hid
  go_wp2_with (first
    | (refine wpList_insert_own _ rfl _ _ _ 87 rfl 3 86 lawI Try.underlying87 _ w1.heap.size 0 _ rfl hmade (by unfold maxLen; omega) _ _ (litI x) rfl rfl (keyOf_int_mk Try.underlying3 hx) _ [] unitElem_mk ?_; intro w2 hown2 hgrow2; have T2 := T1.out.kept hgrow2 (by intro e; injection e with e; have := H1.out.lt; omega) (.inr (by intro e; have e' : some g = some w1.heap.size := e; injection e' with e'; omega)); obtain ⟨e0, e1, _, _⟩ := cells2 T2.at0)
    | fail)
  have hB2 : Below w1.heap.size w1 w2 := bl_grown (bl_alloc (bl_refl w1) _) hgrow2 (fun k hk => by injection hk with hk; omega)
  have hs2 : w1.heap.size + 1 ≤ w2.heap.size := by have := hgrow2.size; simpa using this
  have hown2' : w2.ownsMap Try.prog 3 (unitElem (H := Unit)) w1.heap.size 1 (goneD [x]) := hown2
  have HOWN := hide hown2'
  have HT2 := hide T2
  clear hown2 hown2' hgrow2 hmade T1 T2 hmm d0 d1
  go_loopw [8, 34] (fun kv i wr => DropInv x l w1 kv i wr) (fun _ i _ => l.length - (intOf i).toNat)
  case atStart => exact ⟨0, rfl, Nat.zero_le _, HOWN, hide ⟨rfl, .inl ⟨rfl, rfl⟩⟩, hB2, hs2⟩
  case round =>
    obtain ⟨k, rfl, hk, HM, HK, hbl, hsz⟩ := hrel
    by_cases hlt : k < l.length
    · have hT := H1.out.later hbl
      obtain ⟨x0, x1, x2, x3, x4, x5⟩ := hT.cell k hlt
      have hstep := foldD_take x l k hlt
      have hlens := foldD_len x (l.take k)
      have hltk : (l.take k).length = k := by rw [List.length_take]; omega
      rw [hltk] at hlens
      obtain ⟨hw1, hw2⟩ := HW.out l[k] (List.getElem_mem hlt)
      generalize l[k] = r at *
      obtain ⟨id, f, t, rb, rc, p⟩ := r
      simp only at x0 x1 x2 x3 x4 x5 hw1 hw2
      generalize foldD x (l.take k) = s at *
      obtain ⟨gone, kept⟩ := s
      simp only at hlens HM HK
      have HSTEP := hide hstep
      have HTr := hide hT
      clear hstep hT
      have hm1 := hide (HM.out.alloc (.cells #[.int .i64 id, .int .i64 f, .int .i64 t, .bool rb, .bool rc, .int .i64 p] 82))
      have hm2 := hide (hm1.out.alloc (.cells #[] 86))
      have hm3 := hide (hm2.out.alloc (.cells #[] 86))
      have hself : Maps.has (goneD gone) (Lit.int .i64 id) = gone.contains id := gone_has gone id
      have hbelow : Maps.has (goneD gone) (Lit.int .i64 p) = gone.contains p := gone_has gone p
      obtain ⟨aV, cV, hkv⟩ := own_slice HK.out
      subst hkv
      have hW3 : Below wr.heap.size wr (((wr.alloc (.cells #[.int .i64 id, .int .i64 f, .int .i64 t, .bool rb, .bool rc, .int .i64 p] 82)).alloc (.cells #[] 86)).alloc (.cells #[] 86)) := bl_alloc (bl_alloc (bl_alloc (bl_refl wr) _) _) _
      have hS3 : (((wr.alloc (.cells #[.int .i64 id, .int .i64 f, .int .i64 t, .bool rb, .bool rc, .int .i64 p] 82)).alloc (.cells #[] 86)).alloc (.cells #[] 86)).heap.size = wr.heap.size + 3 := by simp
      have hk3 := own_below HK.out hW3
      have hkb : ∀ q, (Value.slice aV kept.length cV).ownBlock = some q → w1.heap.size + 1 ≤ q := fun q hq => (HK.out.lt q hq).1
      have hbe3 := bl_trans hbl hW3
      have hgone : gone.contains id = true ∨ (gone.contains id = false ∧ gone.contains p = true) → foldD x (l.take (k + 1)) = (gone ++ [id], kept) := fun h => by
        rw [HSTEP.out]
        unfold stepD
        simp only
        rcases h with h | ⟨h, h'⟩
        · rw [h]; rfl
        · rw [h, h']; rfl
      have hstay : gone.contains id = false → gone.contains p = false → foldD x (l.take (k + 1)) = (gone, kept ++ [⟨id, f, t, rb, rc, p⟩]) := fun h h' => by
        rw [HSTEP.out]
        unfold stepD
        simp only
        rw [h, h']; rfl
      have HGONE := hide hgone
      have HSTAY := hide hstay
      clear hgone hstay HSTEP
      generalize gone.contains id = bs at *
      generalize gone.contains p = bp at *
      cases bs
      case true =>
        have hF := hide (HGONE.out (.inl rfl))
        clear HGONE HSTAY
        go_wp2_with (first
          | (at_lookup; refine wpList_lookup_own_unit _ rfl _ _ 87 rfl 3 86 lawI Try.underlying87 (zeroU _) w1.heap.size gone.length (goneD gone) rfl (by first | exact hm1.out | exact hm2.out) _ _ rfl (keyOf_int_mk Try.underlying3 (by first | exact hw1 | exact hw2)) ?_)
          | (at_mapUpdate; refine wpList_mapUpdate_own _ rfl _ _ _ 87 rfl 3 86 lawI Try.underlying87 _ w1.heap.size gone.length _ rfl hm3.out (by unfold maxLen; omega) _ _ (litI id) rfl rfl (keyOf_int_mk Try.underlying3 hw1) _ [] unitElem_mk ?_; intro w4 hown4 hgrow4)
          | fail)
        have hb4 : Below w1.heap.size w1 w4 := below_gr hbe3 (Nat.le_refl _) hgrow4 (fun q hq => by injection hq with hq; omega)
        have hk4 := own_far hk3 (fun q hq => by injection hq with hq; omega) hgrow4
        have hs4 := hgrow4.size
        rw [← gone_snoc] at hown4
        refine ⟨?_, by first | (simp [intOf]; done) | (simp [intOf]; omega)⟩
        exact ⟨k + 1, by go_num, by omega, hide (by rw [hF.out]; simp only [List.length_append, List.length_cons, List.length_nil]; exact hown4), hide (by rw [hF.out]; exact hk4), hb4, by omega⟩
      case false =>
        cases bp
        case true =>
          have hF := hide (HGONE.out (.inr ⟨rfl, rfl⟩))
          clear HGONE HSTAY
          go_wp2_with (first
            | (at_lookup; refine wpList_lookup_own_unit _ rfl _ _ 87 rfl 3 86 lawI Try.underlying87 (zeroU _) w1.heap.size gone.length (goneD gone) rfl (by first | exact hm1.out | exact hm2.out) _ _ rfl (keyOf_int_mk Try.underlying3 (by first | exact hw1 | exact hw2)) ?_)
            | (at_mapUpdate; refine wpList_mapUpdate_own _ rfl _ _ _ 87 rfl 3 86 lawI Try.underlying87 _ w1.heap.size gone.length _ rfl hm3.out (by unfold maxLen; omega) _ _ (litI id) rfl rfl (keyOf_int_mk Try.underlying3 hw1) _ [] unitElem_mk ?_; intro w4 hown4 hgrow4)
            | fail)
          have hb4 : Below w1.heap.size w1 w4 := below_gr hbe3 (Nat.le_refl _) hgrow4 (fun q hq => by injection hq with hq; omega)
          have hk4 := own_far hk3 (fun q hq => by injection hq with hq; omega) hgrow4
          have hs4 := hgrow4.size
          rw [← gone_snoc] at hown4
          refine ⟨?_, by first | (simp [intOf]; done) | (simp [intOf]; omega)⟩
          exact ⟨k + 1, by go_num, by omega, hide (by rw [hF.out]; simp only [List.length_append, List.length_cons, List.length_nil]; exact hown4), hide (by rw [hF.out]; exact hk4), hb4, by omega⟩
        case false =>
          have hF := hide (HSTAY.out rfl rfl)
          have hfin : ∀ (v' : Value) (W : World), W.ownsRow (w1.heap.size + 1) 82 6 v' (kept.length + 1) (flatM kept ++ [.int .i64 id, .int .i64 f, .int .i64 t, .bool rb, .bool rc, .int .i64 p]) → Hid (W.ownsRow (w1.heap.size + 1) 82 6 v' (foldD x (l.take (k + 1))).2.length (flatM (foldD x (l.take (k + 1))).2)) := fun v' W h => hide (by rw [hF.out]; simp only; rw [List.length_append, flatM_app]; exact h)
          have HFIN := hide hfin
          clear HGONE HSTAY hfin
          go_wp2_with (first
            | (at_lookup; refine wpList_lookup_own_unit _ rfl _ _ 87 rfl 3 86 lawI Try.underlying87 (zeroU _) w1.heap.size gone.length (goneD gone) rfl (by first | exact hm1.out | exact hm2.out) _ _ rfl (keyOf_int_mk Try.underlying3 (by first | exact hw1 | exact hw2)) ?_)
            | (at_builtin; go_must (refine wpList_src _ rfl _ _ 73 rfl (w1.heap.size + 1) 82 i0 (.agg #[.int .i64 0, .int .i64 0, .int .i64 0, .bool false, .bool false, .int .i64 0]) 6 40 Try.underlying73 hi0 hz0' hz1 hz2 rfl (by decide) (.slice aV kept.length cV) kept.length (flatM kept) rfl (own_below hk3 (bl_alloc (bl_refl _) _)) (some ⟨_, 0, none⟩) 1 1 [.int .i64 id, .int .i64 f, .int .i64 t, .bool rb, .bool rc, .int .i64 p] rfl (src_block (cs := #[.int .i64 id, .int .i64 f, .int .i64 t, .bool rb, .bool rc, .int .i64 p]) (heap_new (by simp)) rfl) (by simp [Value.oneCell']) (by omega) (by decide) (by simp; omega) ?_); intro v' w4 hv4 hgr4)
            | fail)
          have hb4 : Below w1.heap.size w1 w4 := below_gr (bl_alloc hbe3 (.cells #[.int .i64 id, .int .i64 f, .int .i64 t, .bool rb, .bool rc, .int .i64 p] 82)) (Nat.le_refl _) hgr4 (fun q hq => by have := hkb q hq; omega)
          have hm4 := (hm3.out.alloc (.cells #[.int .i64 id, .int .i64 f, .int .i64 t, .bool rb, .bool rc, .int .i64 p] 82)).kept hgr4 (fun e => by have := hkb _ e.symm; omega)
          have hs4 := hgr4.size
          refine ⟨?_, by first | (simp [intOf]; done) | (simp [intOf]; omega)⟩
          exact ⟨k + 1, by go_num, by omega, hide (by rw [hF.out]; exact hm4), HFIN.out _ _ hv4, hb4, by have := hs4; simp at this; omega⟩
    · obtain rfl : k = l.length := by omega
      rw [List.take_length] at HM HK
      have hT := H1.out.later hbl
      obtain ⟨f0, f1, f2, f3⟩ := cells2 hT.at0
      obtain ⟨aV, cV, hkv⟩ := own_slice HK.out
      subst hkv
      have hkb : ∀ q, (Value.slice aV (foldD x l).2.length cV).ownBlock = some q → w1.heap.size + 1 ≤ q := fun q hq => (HK.out.lt q hq).1
      have hlt1 := H1.out.lt
      have hs1 := hb1.size
      have hoff : (Value.slice aV (foldD x l).2.length cV).ownBlock ≠ some tb := fun e => by have := hkb tb e; omega
      have hfin : Tab (wr.setCell ⟨tb, 1, none⟩ (.slice aV (foldD x l).2.length cV)) base tb last (.slice aV (foldD x l).2.length cV) (dropM x l) :=
        ⟨hT.low, heap_set hT.at0 1 _, (own_base HK.out (by omega)).kept (grown_set (grown_refl wr (some tb)) 1 _) (.inr hoff), hoff⟩
      have hgr : w.grownBy (wr.setCell ⟨tb, 1, none⟩ (.slice aV (foldD x l).2.length cV)) (some tb) := gr_step (gr_of (bl_trans hb1 hbl) _) (bl_refl wr) _ _
      have HFIN := hide hfin
      have HKB := hide hkb
      clear hT hfin hkb HM HK
      go_wp2
      go_ret
      exact ⟨rfl, ⟨_, HFIN.out, fun q hq => by have := HKB.out q hq; omega⟩, hgr⟩
end Go.Proofs.Ytjmoeahlbgdkbaa
