/- Contract of rxset.Union: rows put together, in a slice of the call's own. No condition but short texts and slices. -/
import Derived.Test.YtcgphknnnjpbkaaRowE
import Derived.ArgAppend
import Derived.RegionTactic
namespace Go.Proofs.Ytcgphknnnjpbkaa
open Go.ChangeShapes Go.WideShapes Go.ChangeAt Go.RowKit
open SetM
attribute [local go_sem ↓] Go.wp_at_zero Go.wp_at_succ
attribute [local go_sem] later_cell later_frozen lt_bl le_bl
theorem flatR_set (l : List Rw) (i : Nat) (h : i < l.length) (s : Rw) : ((flatR l).set (i * 2) (.string s.1)).set (i * 2 + 1) (.string s.2) = flatR (l.set i s) := by
  induction l generalizing i with
  | nil => simp at h
  | cons a r ih =>
    cases i with
    | zero => rfl
    | succ i =>
      have e : ∀ (b : Rw) (q : List Rw), flatR (b :: q) = .string b.1 :: .string b.2 :: flatR q := fun _ _ => rfl
      have h1 : (i + 1) * 2 = i * 2 + 1 + 1 := by omega
      rw [e, h1, List.set_cons_succ, List.set_cons_succ, List.set_cons_succ, List.set_cons_succ, ih i (by simpa using h), List.set_cons_succ, e]
theorem max_str (ats : Array TypeId) (ty : TypeId) (x y : ByteArray) (w : World) : (Builtin.max_ ats ty #[.string x, .string y]).run Try.prog w = .ok (.string (mx x y)) w := by
  have h : mx x y = if (!bl x y) = true then x else y := by
    unfold mx; cases bl x y <;> rfl
  rw [h]
  simp [Builtin.max_, Builtin.max2, Op.stringOp, asBool, bl]
attribute [local go_sem] max_str
section
variable {P : Program}
/-- append(own[:k], one element of two cells), where there is room: in place. -/
theorem wpList_inplace {ops : Array Oper} {rest : List Oper} {o : Oper} {a : Act} {Q : Exit → Act → World → Prop} (w0 : World) (hgd : o.guard = none) (s x : Operand) (t : TypeId)
    (ho : o.op = .call { callee := .builtin .append, args := #[s, x], argTypes := #[t, t] })
    (base : Nat) (e : TypeId) (i : TypeInfo) (ht : P.underlying t = some (.slice e)) (hi : P.info? e = some i) (hsize : i.size = 2)
    (g n c k : Nat) (xs : List Value) (hs : a.eval s = .slice (some ⟨g, 0, none⟩) k c) (hown : w0.ownsRow base e 2 (.slice (some ⟨g, 0, none⟩) n c) n xs) (hk : k < n) (hnc : n ≤ c)
    (u1 u2 : Value) (h1 : u1.oneCell' = true) (h2 : u2.oneCell' = true) (hx : a.eval x = .slice (some ⟨w0.heap.size, 0, none⟩) 1 1)
    (h : ∀ w', w'.ownsRow base e 2 (.slice (some ⟨g, 0, none⟩) n c) n ((xs.set (k * 2) u1).set (k * 2 + 1) u2) → w0.grownBy w' (some g) → wpList P ops Q rest (a.put o.dst (.slice (some ⟨g, 0, none⟩) (k + 1) c)) w') :
    wpList P ops Q (o :: rest) a (w0.alloc (.cells #[u1, u2] e)) := by
  have hown2 := hown.alloc (.cells #[u1, u2] e)
  have hc : ∀ j, j < n * 2 → ((w0.alloc (.cells #[u1, u2] e)).cell? ⟨g, j, none⟩).isSome = true := fun j hj => by
    rw [World.ownsRow.cellAt hown2 j hj]
    have : j < xs.length := by rw [hown2.1]; exact hj
    simp [this]
  have hr := run_append_room_cells (P := P) (w0.alloc (.cells #[u1, u2] e)) t o.type e i ht hi g 0 k c ⟨w0.heap.size, 0, none⟩ 1 1 [u1, u2] (by rw [hsize]; rfl)
    (fun j u hu => cells_lit w0 #[u1, u2] e j u hu) (by simp [h1, h2]) (by omega)
    (fun j hj => by rw [hsize]; exact hc _ (by simp at hj; omega)) (fun j hj => World.ownsRow.frozenAt hown2 _)
  rw [hsize, Nat.zero_add] at hr
  have s1 := World.ownsRow.stored hown2 (k * 2) u1
  have s2 := World.ownsRow.stored s1.1 (k * 2 + 1) u2
  refine wpList_plain hgd fun K hK => ?_
  unfold Oper.wp execOp
  simp only [ho, resolve, invoke, builtin, Sem.run_bind, Sem.run_pure, Result.andThen_ok, List.map_toArray, List.map_cons, List.map_nil, hs, hx, hr]
  refine hK _ _ (h _ s2.1 ?_)
  have g1 := s1.2
  have g2 := s2.2
  exact ⟨g2.os.trans g1.os, g2.tape.trans g1.tape, g2.output.trans g1.output, Nat.le_trans (by simp) (Nat.le_trans g1.size g2.size), fun q hq hne =>
    ((g2.block q (Nat.lt_of_lt_of_le (by simp; omega) g1.size) hne).trans (g1.block q (by simp; omega) hne)).trans (Below.heap_alloc w0 _ q hq)⟩
end
theorem kstep (M S A : List Rw) (i k : Nat) (x : Rw) (hi : i ≤ k) (hM : M.length = S.length) (hk : k < S.length) (hd : M.drop k = S.drop k) (ht : M.take i = A) :
    (M.set i x).take (i + 1) = A ++ [x] ∧ (M.set i x).drop (k + 1) = S.drop (k + 1) ∧ (M.set i x).length = S.length := by
  refine ⟨?_, ?_, by simp [hM]⟩
  · rw [List.take_succ_eq_append_getElem (by simp; omega), List.getElem_set_self, List.take_set_of_le (Nat.le_refl i), ht]
  · rw [List.drop_set_of_lt (by omega), ← List.drop_drop, hd, List.drop_drop]
theorem kget (M S : List Rw) (k : Nat) (hM : M.length = S.length) (hk : k < S.length) (hd : M.drop k = S.drop k) : M[k]'(by omega) = S[k] := by
  have h1 := List.drop_eq_getElem_cons (l := M) (i := k) (by omega)
  have h2 := List.drop_eq_getElem_cons hk
  rw [h1, h2] at hd
  exact (List.cons.inj hd).1
theorem flatR_take (l : List Rw) (k : Nat) : (flatR l).take (k * 2) = flatR (l.take k) := by
  induction l generalizing k with
  | nil => simp [flatR]
  | cons a r ih =>
    cases k with
    | zero => simp [flatR]
    | succ k =>
      have e : ∀ (b : Rw) (q : List Rw), flatR (b :: q) = .string b.1 :: .string b.2 :: flatR q := fun _ _ => rfl
      rw [show (k + 1) * 2 = k * 2 + 1 + 1 by omega, e, List.take_succ_cons, List.take_succ_cons, ih k, List.take_succ_cons, e]
/-- The front of an own slice is one. -/
theorem own_front {w : World} {base : Nat} {e : TypeId} {size g n c m : Nat} {xs ys : List Value} (h : w.ownsRow base e size (.slice (some ⟨g, 0, none⟩) n c) n xs) (hm : m ≤ n) (hy : xs.take (m * size) = ys) :
    w.ownsRow base e size (.slice (some ⟨g, 0, none⟩) m c) m ys := by
  rcases h.2 with ⟨h0, _⟩ | ⟨g', c', cur, hv, hb, hh, h1, h2, h3, h4⟩
  · cases h0
  cases hv
  have hms : m * size ≤ n * size := Nat.mul_le_mul_right _ hm
  refine ⟨by rw [← hy, List.length_take, h.1]; omega, .inr ⟨g, c, cur, rfl, hb, hh, by omega, h2, h3, ?_⟩⟩
  rw [← hy, ← h4, List.take_take, Nat.min_eq_left hms]
def okU (l : List Rw) : List Rw := l.filter rowB
theorem okU_next (l : List Rw) (j : Nat) (h : j < l.length) : okU (l.take (j + 1)) = okU (l.take j) ++ (if rowB l[j] = true then [l[j]] else []) := by
  unfold okU
  rw [List.take_succ_eq_append_getElem h, List.filter_append]
  by_cases hb : rowB l[j] = true <;> simp [hb]
theorem okU_le (l : List Rw) (j : Nat) : (okU (l.take j)).length ≤ j := by
  have h1 := List.length_filter_le rowB (l.take j)
  have h2 : (l.take j).length ≤ j := by simp; omega
  unfold okU; omega
def FInvU (l : List Rw) (w : World) (v i : Value) (wr : World) : Prop :=
  ∃ j : Nat, i = .int .i64 j ∧ j ≤ l.length ∧ wr.ownsRow w.heap.size 47 2 v (okU (l.take j)).length (flatR (okU (l.take j))) ∧ Below w.heap.size w wr
def KInv (S : List Rw) (w : World) (g c : Nat) (v i : Value) (wr : World) : Prop :=
  ∃ (k n : Nat) (acc M : List Rw), i = .int .i64 k ∧ k ≤ S.length ∧ Hid (uniF (S.take k) = acc) ∧ n ≤ k ∧ Hid (acc.length = n) ∧ v = .slice (some ⟨g, 0, none⟩) n c ∧ Hid (M.length = S.length) ∧ Hid (M.take n = acc) ∧ Hid (M.drop k = S.drop k) ∧
    wr.ownsRow w.heap.size 47 2 (.slice (some ⟨g, 0, none⟩) S.length c) S.length (flatR M) ∧ Below w.heap.size w wr
set_option maxRecDepth 100000 in
set_option maxHeartbeats 4000000 in
theorem union_any (v : Value) (l : List Rw) (w : World) (h : RwAt w v l) (hl : l.length ≤ 1000) (hsh : ∀ s ∈ l, Short s) :
    Calls Try.prog 27 #[v] w fun e w' => ∃ v', e = .returned v' ∧ Below w.heap.size w w' ∧ w'.ownsRow w.heap.size 47 2 v' (uniF (sortS (okU l))).length (flatR (uniF (sortS (okU l)))) := by
  obtain ⟨i0, hi0, hz0', hz1, hz2⟩ := info_parts info_rw
  have HW := hide h
  have HSH := hide hsh
  obtain ⟨aA, cA, rfl⟩ := rwat_len h
  obtain ⟨U, hU⟩ : ∃ U, uniF (sortS (okU l)) = U := ⟨_, rfl⟩
  rw [hU]
  have HUU := hide hU
  clear h hsh hU
  go_enter Try.func27, Try.ntmps27
  go_wp2
  go_loopw [3, 12] (fun v i wr => FInvU l w v i wr) (fun _ i _ => l.length - (intOf i).toNat)
  case atStart => exact ⟨0, rfl, Nat.zero_le _, ⟨rfl, .inl ⟨rfl, rfl⟩⟩, bl_refl w⟩
  case round =>
    obtain ⟨j, rfl, hj, hv, hbl⟩ := hrel
    by_cases hlt : j < l.length
    · obtain ⟨b1, o1, c1, hv1, hc1, hm1, hlb1, hcell1⟩ := rwat_some (rwat_below HW.out hbl) (by omega)
      injection hv1 with hv1 _ hv1c
      subst hv1 hv1c
      unfold maxLen at hm1
      obtain ⟨x1, x2⟩ := hcell1 j hlt
      have hus := okU_next l j hlt
      have hul := okU_le l j
      have hss := HSH.out l[j] (List.getElem_mem hlt)
      clear hcell1
      obtain ⟨s, hs⟩ : ∃ s, l[j] = s := ⟨_, rfl⟩
      rw [hs] at hus x1 x2 hss
      have HUS := hide hus
      clear hus hs
      obtain ⟨acc, hacc⟩ : ∃ acc, okU (l.take j) = acc := ⟨_, rfl⟩
      rw [hacc] at HUS hv hul
      have fin : ∀ (v' : Value) (W : World) (acc' : List Rw), acc ++ (if rowB s = true then [s] else []) = acc' → W.ownsRow w.heap.size 47 2 v' acc'.length (flatR acc') → Below w.heap.size w W → FInvU l w v' (.int .i64 ((j : Int) + 1)) W :=
        fun v' W acc' h1 h2 h3 => ⟨j + 1, by go_num, by omega, by rw [HUS.out, h1]; exact h2, h3⟩
      have FIN := hide fin
      clear fin HUS hacc
      obtain ⟨r, hr⟩ : ∃ r, rowB s = r := ⟨_, rfl⟩
      have HR := hide hr
      have hv2 := hv.alloc (.cells #[.string s.1, .string s.2] 47)
      have hbl2 := bl_alloc hbl (.cells #[.string s.1, .string s.2] 47)
      have hbw : w.heap.size ≤ wr.heap.size := hbl.size
      obtain ⟨aV, cV, rfl⟩ := own_slice hv
      clear hv hr
      go_wp2_with fail
      refine (may_any s r _ hss HR.out).mono ?_
      rintro e w1 ⟨rfl, hb1⟩
      have d1 : w1.cell? ⟨wr.heap.size, 0, none⟩ = some (.string s.1) := by rw [(bl_cell hb1).1 _ _ (by simp)]; go_simp
      have d2 : w1.cell? ⟨wr.heap.size, 1, none⟩ = some (.string s.2) := by rw [(bl_cell hb1).1 _ _ (by simp)]; go_simp
      have hv3 := own_below hv2 hb1
      have hbl3 := bl_trans hbl2 hb1
      have hbs : wr.heap.size + 1 ≤ w1.heap.size := by have := hb1.size; simpa using this
      clear hb1 hv2 hbl2 x1 x2
      cases r
      · have HV3 := hide hv3
        clear hv3
        go_wp2
        refine ⟨?_, by first | (simp [intOf]; done) | (simp [intOf]; omega)⟩
        refine FIN.out _ _ acc ?_ HV3.out hbl3
        rw [HR.out]; simp
      · go_wp2_with (at_builtin; (refine wpList_push w1 rfl _ _ 23 rfl w.heap.size 47 i0 (.agg #[.string ⟨#[]⟩, .string ⟨#[]⟩]) 2 32 Try.underlying23 hi0 hz0' hz1 hz2 rfl (by decide) (.slice aV acc.length cV) acc.length (flatR acc) rfl hv3 1 #[.string s.1, .string s.2] rfl rfl (by simp [Value.oneCell']) (by omega) (by decide) (by omega) ?_); intro v' w4 hv4 hg4 hat)
        have hv5 : w4.ownsRow w.heap.size 47 2 v' (acc ++ [s]).length (flatR (acc ++ [s])) := by
          rw [flatR_app, List.length_append]; exact hv4
        have hbl4 : Below w.heap.size w w4 := bl_own hbl3 hv3 hg4 (Nat.le_refl _)
        refine ⟨?_, by first | (simp [intOf]; done) | (simp [intOf]; omega)⟩
        refine FIN.out _ _ (acc ++ [s]) ?_ hv5 hbl4
        rw [HR.out]; simp
    · obtain rfl : j = l.length := by omega
      rw [List.take_length] at hv
      have hfl : (okU l).length ≤ 1000 := by
        have := okU_le l l.length
        rw [List.take_length] at this; omega
      obtain ⟨L, hL⟩ : ∃ L, okU l = L := ⟨_, rfl⟩
      rw [hL] at hv hfl
      have hU2 := HUU.out
      rw [hL] at hU2
      have HU2 := hide hU2
      clear hL HW HSH hlt HUU hU2
      have HO := hide hv
      rcases own_form hv with ⟨rfl, h1, h2⟩ | ⟨g, c, rfl, h1, h2, h3, h4, h5⟩
      · have hl0 : L = [] := List.eq_nil_of_length_eq_zero h1
        subst hl0
        clear h1 h2 hv HO
        go_wp2_with fail
        refine (sort_none _ _).mono ?_
        rintro e w2 ⟨rfl, rfl⟩
        go_wp2
        refine wp_loop_rounds 1 ?_
        rw [rounds_succ]
        go_wp2
        go_ret
        have e : uniF (sortS []) = [] := by rw [List.eq_nil_of_length_eq_zero (sortS_len [])]; rfl
        have e2 := HU2.out
        rw [e] at e2
        subst e2
        exact ⟨_, rfl, hbl, ⟨rfl, .inl ⟨rfl, rfl⟩⟩⟩
      · clear h5 hv
        go_wp2_with fail
        refine (sort_any g c w.heap.size L _ HO.out hfl).mono ?_
        rintro e w2 ⟨rfl, hg2, ho2⟩
        have hb2 : Below w.heap.size w w2 := bl_grown hbl hg2 (fun k hk => by cases hk; exact h1)
        have hS := sortS_len L
        obtain ⟨S, hSS⟩ : ∃ S, sortS L = S := ⟨_, rfl⟩
        rw [hSS] at hS ho2
        have hU3 := HU2.out
        rw [hSS] at hU3
        have HU3 := hide hU3
        have hlS : L.length = S.length := hS.symm
        rw [hlS] at h3 hfl ⊢
        rw [hlS] at ho2
        clear HU2 hU3
        unfold maxLen at h4
        clear hSS hS hlS HO hg2 h2 hbl
        go_wp2
        go_loopw [6, 29] (fun v i wr => KInv S w g c v i wr) (fun _ i _ => S.length - (intOf i).toNat)
        case atStart => exact ⟨0, 0, [], S, rfl, Nat.zero_le _, hide rfl, Nat.le_refl _, hide rfl, rfl, hide rfl, hide rfl, hide rfl, ho2, hb2⟩
        case round =>
          clear ho2 hb2
          obtain ⟨k, n, acc, M, rfl, hk, HU, hak, HAL, rfl, HML, HMT, HMD, hv, hbl⟩ := hrel
          by_cases hlt : k < S.length
          · have hget := kget M S k HML.out hlt HMD.out
            have hus := uniF_snoc S k hlt
            rw [HU.out] at hus
            obtain ⟨s, hs⟩ : ∃ s, S[k] = s := ⟨_, rfl⟩
            rw [hs] at hus hget
            have hMk : k < M.length := by rw [HML.out]; exact hlt
            have hfa := flatR_at M k hMk
            rw [hget] at hfa
            have x1 : wr.cell? ⟨g, k * 2, none⟩ = some (.string s.1) := by rw [World.ownsRow.cellAt hv (k * 2) (by omega)]; exact hfa.1
            have x2 : wr.cell? ⟨g, k * 2 + 1, none⟩ = some (.string s.2) := by rw [World.ownsRow.cellAt hv (k * 2 + 1) (by omega)]; exact hfa.2
            have fin : ∀ (W : World) (i : Nat) (A : List Rw) (x : Rw), i ≤ k → M.take i = A → stepU acc s = A ++ [x] → W.ownsRow w.heap.size 47 2 (.slice (some ⟨g, 0, none⟩) S.length c) S.length (flatR (M.set i x)) → Below w.heap.size w W → KInv S w g c (.slice (some ⟨g, 0, none⟩) (i + 1) c) (.int .i64 ((k : Int) + 1)) W := by
              intro W i A x hi hA hst ho hb
              have h1 := kstep M S A i k x hi HML.out hlt HMD.out hA
              have hAl : A.length = i := by rw [← hA, List.length_take, HML.out]; omega
              exact ⟨k + 1, i + 1, A ++ [x], M.set i x, by go_num, by omega, hide (by rw [hus, hst]), by omega, hide (by simp [hAl]), rfl, hide h1.2.2, hide h1.1, hide h1.2.1, ho, hb⟩
            have FIN := hide fin
            clear fin hus hs hfa hget hMk HMD HU
            have hbw : w.heap.size ≤ wr.heap.size := hbl.size
            have hgl : g < wr.heap.size := by
              rcases own_form hv with ⟨h0, _⟩ | ⟨g', c', h0, _, h1, _⟩
              · cases h0
              · cases h0; exact h1
            have hML := HML.out
            rcases List.eq_nil_or_concat acc with rfl | ⟨a0, t, rfl⟩
            · obtain rfl : n = 0 := by have := HAL.out; simpa using this.symm
              have hd : decide ((0 : Int) ≤ -1) = false := by decide
              clear HAL
              have HV2 := hide (hv.alloc (.cells #[.string s.1, .string s.2] 47))
              have hbl2 := bl_alloc hbl (.cells #[.string s.1, .string s.2] 47)
              have HST := hide (step_nil s)
              have HML2 := hide hML
              have hset := flatR_set M 0 (by omega) s
              rw [Nat.zero_mul, Nat.zero_add] at hset
              have HSET := hide hset
              clear hv hML HMT hset
              go_wp2
              go_quiet (fail)
              go_wp2_with (at_builtin; (refine wpList_inplace ((wr.alloc (.cells #[.string s.1, .string s.2] 47)).drewN nq) rfl _ _ 23 rfl w.heap.size 47 i0 Try.underlying23 hi0 hz1 g S.length c 0 (flatR M) rfl HV2.out (by omega) h3 (.string s.1) (.string s.2) rfl rfl (by show Value.slice (some ⟨wr.heap.size + 1, 0, none⟩) 1 1 = _; simp) ?_); intro w4 hv4 hg4)
              have hbl4 : Below w.heap.size w w4 := bl_grown (bl_drewN hbl2 nq) hg4 (fun q hq => by cases hq; exact h1)
              refine ⟨?_, by first | (simp [intOf]; done) | (simp [intOf]; omega)⟩
              refine FIN.out _ 0 [] s (by omega) rfl HST.out ?_ hbl4
              rw [← HSET.out]; exact hv4
            · rw [List.concat_eq_append] at *
              have hlen : (a0 ++ [t]).length = a0.length + 1 := by simp
              obtain rfl : n = a0.length + 1 := by have := HAL.out; rw [hlen] at this; exact this.symm
              have hMT := HMT.out
              clear HAL
              have hMm : M[a0.length]'(by omega) = t := by
                have h0 : (M.take (a0.length + 1))[a0.length]'(by simp; omega) = M[a0.length]'(by omega) := List.getElem_take
                rw [← h0]
                simp only [hMT]
                simp
              have hM0 : M.take a0.length = a0 := by
                have h0 := congrArg (List.take a0.length) hMT
                rw [List.take_take, Nat.min_eq_left (by omega)] at h0
                rw [h0]; simp
              have hfm := flatR_at M a0.length (by omega)
              rw [hMm] at hfm
              have y1 : wr.cell? ⟨g, a0.length * 2, none⟩ = some (.string t.1) := by rw [World.ownsRow.cellAt hv (a0.length * 2) (by omega)]; exact hfm.1
              have y2 : wr.cell? ⟨g, a0.length * 2 + 1, none⟩ = some (.string t.2) := by rw [World.ownsRow.cellAt hv (a0.length * 2 + 1) (by omega)]; exact hfm.2
              have yf := World.ownsRow.frozenAt hv (a0.length * 2 + 1)
              have hd : decide ((0 : Int) ≤ (a0.length : Int)) = true := by simp
              have HV2 := hide (hv.alloc (.cells #[.string s.1, .string s.2] 47))
              have hbl2 := bl_alloc hbl (.cells #[.string s.1, .string s.2] 47)
              have hset1 := flatR_set M (a0.length + 1) 
              have hset2 := flatR_set1 M a0.length (by omega) (mx t.2 s.2)
              rw [hMm] at hset2
              have HM := hide (And.intro hM0 hMT)
              have HS1 := hide hset1
              have HS2 := hide hset2
              have HLEN := hide hlen
              have HML2 := hide hML
              clear hset1 hset2 hv hfm hMm hM0 hMT HMT hlen
              cases hr : bl t.2 s.1
              · have HST := hide (step_on a0 t s hr)
                have fin2 : ∀ q, KInv S w g c (.slice (some ⟨g, 0, none⟩) (a0.length + 1) c) (.int .i64 ((k : Int) + 1)) (((wr.alloc (.cells #[.string s.1, .string s.2] 47)).drewN q).drew.setCell ⟨g, a0.length * 2 + 1, none⟩ (.string (mx t.2 s.2))) := by
                  intro q
                  have h9 := (World.ownsRow.stored (World.ownsRow.drew (own_below HV2.out (bl_drewN (bl_refl _) q))) (a0.length * 2 + 1) (.string (mx t.2 s.2))).1
                  rw [HS2.out] at h9
                  exact FIN.out _ a0.length a0 _ (by omega) HM.out.1 HST.out h9 (bl_set (bl_drew (bl_drewN hbl2 q)) h1 _)
                have FIN2 := hide fin2
                clear fin2 hML
                go_wp2
                go_quiet (fail)
                go_wp2
                go_region
                all_goals
                  go_wp2
                  refine ⟨?_, by first | (simp [intOf]; done) | (simp [intOf]; omega)⟩
                  exact FIN2.out _
              · have HST := hide (step_new a0 t s hr)
                clear hML
                go_wp2
                go_quiet (fail)
                go_wp2_with (at_builtin; (refine wpList_inplace ((wr.alloc (.cells #[.string s.1, .string s.2] 47)).drewN nq) rfl _ _ 23 rfl w.heap.size 47 i0 Try.underlying23 hi0 hz1 g S.length c (a0.length + 1) (flatR M) rfl HV2.out (by omega) h3 (.string s.1) (.string s.2) rfl rfl (by show Value.slice (some ⟨wr.heap.size + 1, 0, none⟩) 1 1 = _; simp) ?_); intro w4 hv4 hg4)
                have hbl4 : Below w.heap.size w w4 := bl_grown (bl_drewN hbl2 nq) hg4 (fun q hq => by cases hq; exact h1)
                refine ⟨?_, by first | (simp [intOf]; done) | (simp [intOf]; omega)⟩
                refine FIN.out _ (a0.length + 1) (a0 ++ [t]) s (by omega) HM.out.2 HST.out ?_ hbl4
                rw [← HS1.out (by have := HML2.out; omega) s]; exact hv4
          · obtain rfl : k = S.length := by omega
            have hU4 := HU.out
            rw [List.take_length, HU3.out] at hU4
            subst hU4
            have hUl := uniF_le S
            rw [HU3.out] at hUl
            obtain rfl : n = U.length := HAL.out.symm
            have htk : (flatR M).take (U.length * 2) = flatR U := by
              have h0 := HMT.out
              rw [flatR_take, h0]
            have HO := hide (own_front hv hUl htk)
            clear hv HU HMT HMD HML hlt htk
            go_wp2
            go_ret
            exact ⟨_, rfl, hbl, HO.out⟩
end Go.Proofs.Ytcgphknnnjpbkaa
