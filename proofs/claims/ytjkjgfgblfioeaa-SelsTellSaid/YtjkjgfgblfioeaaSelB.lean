/- Contracts: a single selection put in order. Condition: it lies in the text. -/
import Derived.Test.YtjkjgfgblfioeaaSelA
import Derived.Test.YtjkjgfgblfioeaaApp
import Derived.Lib.LazyBuf
import Derived.ArgAppend
import Derived.RegionTactic
namespace Go.Proofs.Ytjkjgfgblfioeaa
open Go.ChangeShapes Go.WideShapes Go.ChangeAt Go.RowKit
open SpanM
attribute [local go_sem ↓] Go.wp_at_zero Go.wp_at_succ
set_option maxRecDepth 100000
set_option linter.unusedVariables false
theorem info_sl : (Try.prog.info? 38).map (fun i => (i.zero, i.size, i.bytes)) = some (some (.agg #[.int .i64 0, .int .i64 0]), 2, 16) := by kernel_rfl
theorem own_spatL {w : World} {base : Nat} {v : Value} {l : List Sp} (h : w.ownsRow base 38 2 v l.length (flat l)) : SpAt w v l := by
  rcases own_form h with ⟨rfl, h1, h2⟩ | ⟨g, c, rfl, h1, h2, h3, h4, h5⟩
  · exact .inl ⟨rfl, List.eq_nil_of_length_eq_zero h1⟩
  · refine .inr ⟨_, c, rfl, h3, h4, fun i hi => ?_⟩
    rw [addr_add, addr_add]
    simp only [Nat.zero_add]
    exact ⟨h5 _ _ (flat_at l i hi).1, h5 _ _ (flat_at l i hi).2⟩
set_option maxRecDepth 100000 in
set_option maxHeartbeats 1000000 in
theorem cloneL_any (v : Value) (l : List Sp) (w : World) (h : SpAt w v l) (hl : l.length ≤ 1000) :
    Calls Try.prog 20 #[v] w fun e w' => ∃ v', e = .returned v' ∧ Below w.heap.size w w' ∧ w'.ownsRow w.heap.size 38 2 v' l.length (flat l) := by
  obtain ⟨i0, hi0, hz0', hz1, hz2⟩ := info_parts info_sl
  have hsn := fun (W : World) (a : Option Addr) (n c : Nat) => Lib.run_eql_slice_nil (P := Try.prog) W 22 38 a n c 0 0 Try.underlying22
  rcases h with ⟨rfl, rfl⟩ | ⟨x, c, rfl, h1, h2, h3⟩
  · go_enter Try.func20, Try.ntmps20
    go_wp2
    go_ret
    exact ⟨_, rfl, bl_refl w, ⟨rfl, .inl ⟨rfl, rfl⟩⟩⟩
  · have hm0 := World.ownsRow_made (base := w.heap.size) (e := 38) (size := 2) w #[] 0 (Nat.le_refl _) (by simp [maxLen]) (by simp)
    have hnews : ∀ j u, (flat l)[j]? = some u → (w.alloc (.cells #[] 38)).cell? (x.add j) = some u := by
      intro j u hu
      have hj : j < l.length * 2 := by
        have := (List.getElem?_eq_some_iff.1 hu).1
        rwa [flat_len] at this
      have hq : j / 2 < l.length := by omega
      have hf := flat_at l (j / 2) hq
      have hc := h3 (j / 2) hq
      rcases Nat.mod_two_eq_zero_or_one j with hh | hh
      · have ht : j / 2 * 2 = j := by omega
        rw [ht] at hf hc
        rw [hu] at hf
        rw [Option.some.inj hf.1]
        exact cell_later (bl_alloc (bl_refl w) _) hc.1
      · have ht : j / 2 * 2 + 1 = j := by omega
        rw [ht] at hf hc
        rw [hu] at hf
        rw [Option.some.inj hf.2]
        exact cell_later (bl_alloc (bl_refl w) _) hc.2
    have hbb : (l.length) * 16 ≤ 140737488355328 := by omega
    clear h3
    go_enter Try.func20, Try.ntmps20
    go_wp2_with (at_builtin; (refine wpList_append_own _ rfl _ _ 22 rfl w.heap.size 38 i0 (.agg #[.int .i64 0, .int .i64 0]) 2 16 Try.underlying22 hi0 hz0' hz1 hz2 rfl (by decide) _ 0 [] rfl hm0 x l.length c (flat l) rfl (flat_len l) hnews (flat_one l) (by unfold maxLen; omega) (by omega) (by simp) ?_); intro v' w4 hv4 hg4 hat)
    go_ret
    rw [Nat.zero_add, List.nil_append] at hv4
    exact ⟨_, rfl, bl_own (bl_alloc (bl_refl w) _) hm0 hg4 (Nat.le_refl _), hv4⟩
section
variable {P : Program}
/-- append(own[:k], one element of two cells), where there is room: in place. -/
theorem wpList_inplace {ops : Array Oper} {rest : List Oper} {o : Oper} {a : Act} {Q : Exit → Act → World → Prop} (w0 : World) (hgd : o.guard = none) (s x : Operand) (t : TypeId)
    (ho : o.op = .call { callee := .builtin .append, args := #[s, x], argTypes := #[t, t] })
    (base : Nat) (e : TypeId) (i : TypeInfo) (ht : P.underlying t = some (.slice e)) (hi : P.info? e = some i) (hsize : i.size = 2)
    (g n c k : Nat) (xs : List Value) (hs : a.eval s = .slice (some ⟨g, 0, none⟩) k c) (hown : w0.ownsRow base e 2 (.slice (some ⟨g, 0, none⟩) n c) n xs) (hk : k < n) (hnc : n ≤ c)
    (u1 u2 : Value) (h1 : u1.oneCell' = true) (h2 : u2.oneCell' = true) (hx : a.eval x = .slice (some ⟨w0.heap.size, 0, none⟩) 1 1)
    (h : ∀ w', w'.ownsRow base e 2 (.slice (some ⟨g, 0, none⟩) n c) n ((xs.set (k * 2) u1).set (k * 2 + 1) u2) → w0.grownBy w' (some g) → wpList P ops Q rest (a.put o.dst (.slice (some ⟨g, 0, none⟩) (k + 1) c)) w') :
    wpList P ops Q (o :: rest) a (w0.alloc (.cells #[u1, u2] e)) := by
  have hown2 := hown.alloc (.cells #[u1, u2] e)
  have hc : ∀ j, j < n * 2 → ((w0.alloc (.cells #[u1, u2] e)).cell? ⟨g, j, none⟩).isSome = true := fun j hj => by
    rw [World.ownsRow.cellAt hown2 j hj]
    have : j < xs.length := by rw [hown2.1]; exact hj
    simp [this]
  have hr := run_append_room_cells (P := P) (w0.alloc (.cells #[u1, u2] e)) t o.type e i ht hi g 0 k c ⟨w0.heap.size, 0, none⟩ 1 1 [u1, u2] (by rw [hsize]; rfl)
    (fun j u hu => cells_lit w0 #[u1, u2] e j u hu) (by simp [h1, h2]) (by omega)
    (fun j hj => by rw [hsize]; exact hc _ (by simp at hj; omega)) (fun j hj => World.ownsRow.frozenAt hown2 _)
  rw [hsize, Nat.zero_add] at hr
  have s1 := World.ownsRow.stored hown2 (k * 2) u1
  have s2 := World.ownsRow.stored s1.1 (k * 2 + 1) u2
  refine wpList_plain hgd fun K hK => ?_
  unfold Oper.wp execOp
  simp only [ho, resolve, invoke, builtin, Sem.run_bind, Sem.run_pure, Result.andThen_ok, List.map_toArray, List.map_cons, List.map_nil, hs, hx, hr]
  refine hK _ _ (h _ s2.1 ?_)
  have g1 := s1.2
  have g2 := s2.2
  exact ⟨g2.os.trans g1.os, g2.tape.trans g1.tape, g2.output.trans g1.output, Nat.le_trans (by simp) (Nat.le_trans g1.size g2.size), fun q hq hne =>
    ((g2.block q (Nat.lt_of_lt_of_le (by simp; omega) g1.size) hne).trans (g1.block q (by simp; omega) hne)).trans (Below.heap_alloc w0 _ q hq)⟩
end
/-- The front of an own slice is one. -/
theorem own_front {w : World} {base : Nat} {e : TypeId} {size g n c m : Nat} {xs ys : List Value} (h : w.ownsRow base e size (.slice (some ⟨g, 0, none⟩) n c) n xs) (hm : m ≤ n) (hy : xs.take (m * size) = ys) :
    w.ownsRow base e size (.slice (some ⟨g, 0, none⟩) m c) m ys := by
  rcases h.2 with ⟨h0, _⟩ | ⟨g', c', cur, hv, hb, hh, h1, h2, h3, h4⟩
  · cases h0
  cases hv
  have hms : m * size ≤ n * size := Nat.mul_le_mul_right _ hm
  refine ⟨by rw [← hy, List.length_take, h.1]; omega, .inr ⟨g, c, cur, rfl, hb, hh, by omega, h2, h3, ?_⟩⟩
  rw [← hy, ← h4, List.take_take, Nat.min_eq_left hms]
theorem ins1 (v : Value) (fv : Value) (w : World) (hv : ∃ a c, v = .slice a 1 c) : Calls Try.prog 46 #[v, .int .i64 0, .int .i64 1, fv] w fun e w' => e = .returned (.tuple #[]) ∧ w = w' := by
  obtain ⟨a, c, rfl⟩ := hv
  go_enter Try.func46, Try.ntmps46
  go_wp2
  refine wp_loop_rounds 1 ?_
  rw [rounds_succ]
  go_wp2
  go_end0
  exact ⟨rfl, rfl⟩
set_option maxHeartbeats 2000000 in
theorem stable1 (v : Value) (fv : Value) (w : World) (hv : ∃ a c, v = .slice a 1 c) : Calls Try.prog 41 #[v, .int .i64 1, fv] w fun e w' => e = .returned (.tuple #[]) ∧ w = w' := by
  obtain ⟨a, c, rfl⟩ := hv
  go_enter Try.func41, Try.ntmps41
  go_wp2
  refine wp_loop_rounds 1 ?_
  rw [rounds_succ]
  go_wp2_with (go_at_call 46; refine (ins1 _ _ _ ⟨_, _, rfl⟩).mono ?_; rintro e w' ⟨rfl, rfl⟩)
  refine wp_loop_rounds 1 ?_
  rw [rounds_succ]
  go_wp2
  go_end0
  exact ⟨rfl, rfl⟩
set_option maxHeartbeats 2000000 in
theorem sstable1 (v : Value) (fv : Value) (w : World) (hv : ∃ a c, v = .slice a 1 c) : Calls Try.prog 26 #[v, fv] w fun e w' => e = .returned (.tuple #[]) ∧ w = w' := by
  obtain ⟨a, c, rfl⟩ := hv
  go_enter Try.func26, Try.ntmps26
  go_wp2_with (go_at_call 41; refine (stable1 _ _ _ ⟨_, _, rfl⟩).mono ?_; rintro e w' ⟨rfl, rfl⟩)
  go_end0
  exact ⟨rfl, rfl⟩
theorem flat_set (l : List Sp) (i : Nat) (h : i < l.length) (s : Sp) : ((flat l).set (i * 2) (.int .i64 s.1)).set (i * 2 + 1) (.int .i64 s.2) = flat (l.set i s) := by
  induction l generalizing i with
  | nil => simp at h
  | cons a r ih =>
    cases i with
    | zero => rfl
    | succ i =>
      have e : ∀ (b : Sp) (q : List Sp), flat (b :: q) = .int .i64 b.1 :: .int .i64 b.2 :: flat q := fun _ _ => rfl
      have h1 : (i + 1) * 2 = i * 2 + 1 + 1 := by omega
      rw [e, h1, List.set_cons_succ, List.set_cons_succ, List.set_cons_succ, List.set_cons_succ, ih i (by simpa using h), List.set_cons_succ, e]
def OneSel (base : Nat) (s : Sp) (w : World) (e : Ending) (w' : World) : Prop := ∃ v', e = .returned v' ∧ Below base w w' ∧ w'.ownsRow base 38 2 v' 1 (flat [s])
set_option maxHeartbeats 4000000 in
theorem merge1 (v : Value) (base : Nat) (s : Sp) (w : World) (h : w.ownsRow base 38 2 v 1 (flat [s])) :
    Calls Try.prog 19 #[v] w (OneSel base s w) := by
  obtain ⟨s1, s2⟩ := s
  obtain ⟨i0, hi0, hz0', hz1, hz2⟩ := info_parts info_sl
  rcases own_form h with ⟨rfl, h1, h2⟩ | ⟨g, c, rfl, h1, h2, h3, h4, h5⟩
  · cases h1
  · have x1 : w.cell? ⟨g, 0, none⟩ = some (.int .i64 s1) := by rw [World.ownsRow.cellAt h 0 (by omega)]; rfl
    have x2 : w.cell? ⟨g, 1, none⟩ = some (.int .i64 s2) := by rw [World.ownsRow.cellAt h 1 (by omega)]; rfl
    have hd : decide ((0 : Int) ≤ -1) = false := by decide
    have HV2 := hide (h.alloc (.cells #[.int .i64 s1, .int .i64 s2] 38))
    have hset := flat_set [(s1, s2)] 0 (by simp) (s1, s2)
    rw [Nat.zero_mul, Nat.zero_add] at hset
    have HSET := hide hset
    clear hset
    go_enter Try.func19, Try.ntmps19
    go_wp2_with (go_at_call 26; refine (sstable1 _ _ _ ⟨_, _, rfl⟩).mono ?_; rintro e w' ⟨rfl, rfl⟩)
    refine wp_loop_rounds 2 ?_
    rw [rounds_succ]
    go_wp2
    go_quiet (fail)
    go_wp2_with (at_builtin; (refine wpList_inplace ((w.alloc (.cells #[.int .i64 s1, .int .i64 s2] 38)).drewN nq) rfl _ _ 22 rfl base 38 i0 Try.underlying22 hi0 hz1 g 1 c 0 (flat [(s1, s2)]) rfl HV2.out (by omega) h3 (.int .i64 s1) (.int .i64 s2) rfl rfl (by show Value.slice (some ⟨w.heap.size + 1, 0, none⟩) 1 1 = _; simp) ?_); intro w4 hv4 hg4)
    have hb4 : Below base w w4 := by
      have hb0 : Below base w ((w.alloc (.cells #[.int .i64 s1, .int .i64 s2] 38)).drewN nq) := ⟨rfl, rfl, rfl, by simp, fun k hk => Below.heap_alloc w _ k (by omega)⟩
      refine hb0.trans ⟨hg4.os, hg4.tape, hg4.output, hg4.size, fun k hk => hg4.block k (by simp; omega) (fun hc => by cases hc; omega)⟩
    rw [rounds_succ]
    go_wp2
    go_ret
    refine ⟨_, rfl, hb4, ?_⟩
    rw [Nat.zero_mul, Nat.zero_add] at hv4
    rw [HSET.out] at hv4
    exact hv4
theorem mayS (a : Sp) (n : Int) (r : Bool) (w : World) (hr : mayB a n = r) : Calls Try.prog 18 #[.agg #[.int .i64 a.1, .int .i64 a.2], .int .i64 n] w fun e w' => e = .returned (.bool r) ∧ Below w.heap.size w w' := by subst hr; exact may_any a n w
/-- One selection that lies in the text is itself. -/
def One8 (s : Sp) (w : World) (e : Ending) (w' : World) : Prop := ∃ v', e = .returned (.tuple #[v', .int .i64 0]) ∧ Below w.heap.size w w' ∧ w'.ownsRow w.heap.size 38 2 v' 1 (flat [s])
set_option maxHeartbeats 4000000 in
theorem norm1 (v : Value) (s : Sp) (n : Int) (w : World) (h : SpAt w v [s]) (hm : mayB (ky s) n = true) :
    Calls Try.prog 10 #[.int .i64 n, v] w (One8 s w) := by
  obtain ⟨s1, s2⟩ := s
  obtain ⟨k, hk⟩ : ∃ k, ky (s1, s2) = k := ⟨_, rfl⟩
  have HA := hide (fun W => span_s s1 s2 k.1 k.2 (by rw [← hk]; rfl) (by rw [← hk]; rfl) W)
  rw [hk] at hm
  have HM := hide hm
  clear hk hm
  have H := hide h
  obtain ⟨x, o, c, rfl, hc1, hm1, hlb1, hcell⟩ := spat_some h (by simp)
  have y := hcell 0 (by simp)
  rw [Nat.zero_mul, Nat.add_zero] at y
  obtain ⟨y1, y2⟩ := y
  simp only [List.getElem_cons_zero] at y1 y2
  clear hcell h
  simp only [List.length_cons, List.length_nil] at *
  go_enter Try.func10, Try.ntmps10
  go_wp2
  refine wp_loop_rounds 2 ?_
  rw [rounds_succ]
  go_wp2_with fail
  refine (HA.out _).mono ?_
  rintro e w1 ⟨rfl, rfl⟩
  go_wp2_with fail
  refine (mayS k n true _ HM.out).mono ?_
  rintro e w2 ⟨rfl, hb2⟩
  have hb3 : Below w.heap.size w w2 := bl_trans (bl_alloc (bl_alloc (bl_alloc (bl_refl w) _) _) _) hb2
  have H2 := hide (spat_below H.out hb3)
  clear hb2
  go_wp2_with fail
  rw [rounds_succ]
  go_wp2_with fail
  refine (cloneL_any _ [(s1, s2)] _ H2.out (by simp)).mono ?_
  rintro e w3 ⟨v3, rfl, hb4, ho3⟩
  have hsz := Nat.le_trans hb3.size (Nat.le_refl w2.heap.size)
  have ho4 := own_base ho3 hsz
  have hb5 := bl_trans hb3 hb4
  clear hb4 ho3
  go_wp2_with fail
  refine (merge1 _ w.heap.size (s1, s2) _ ho4).mono ?_
  rintro e w4 ⟨v4, rfl, hb6, ho5⟩
  have hb7 : Below w.heap.size w w4 := hb5.trans hb6
  go_wp2
  go_ret2
  exact ⟨_, rfl, hb7, ho5⟩
end Go.Proofs.Ytjkjgfgblfioeaa
