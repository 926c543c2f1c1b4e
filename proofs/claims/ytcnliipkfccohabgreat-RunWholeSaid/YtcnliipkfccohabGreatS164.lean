/- Own slices of rows behind a sort. No condition. And 5 texts more. -/
import Derived.Test.YtcnliipkfccohabGreatS160
import Derived.Shelf.SlSortCmp.WholeK
import Derived.Test.YtcnliipkfccohabGreatLayB
import Derived.Sort.LotA
import Derived.ArgAppend
import Derived.RegionTactic
import Derived.Test.YtcnliipkfccohabGreatRows
import Derived.Test.YtcnliipkfccohabGreatS161
import Derived.Deep.DrawnRows
import Derived.BigQuiet
namespace Go.Proofs.YtcnliipkfccohabGreat
end Go.Proofs.YtcnliipkfccohabGreat
namespace Go.Proofs.YtcnliipkfccohabGreat.SetM
end Go.Proofs.YtcnliipkfccohabGreat.SetM
namespace Go.Proofs.YtcnliipkfccohabGreat.SpanM
end Go.Proofs.YtcnliipkfccohabGreat.SpanM
section
namespace Go.Proofs.YtcnliipkfccohabGreat
open Go.ChangeShapes Go.WideShapes Go.ChangeAt Go.RowKit
open SetM
-- behind a sort
section
open Go.Sort Go.Shelf
theorem sp_cell_flat {w : World} {g : Nat} {cur : Array Value} {e : TypeId} {fr : Nat × Nat} (F : Array Value) (n : Nat) (os : Array Obj) (hb : w.heap[g]? = some (.cells cur e fr)) :
    (grow (putRow id (Go.Sort.ahead w n) g 0 F) os).heap[g]? = some (.cells (putCells id 0 F cur) e fr) := by
  have hg : g < w.heap.size := (Array.getElem?_eq_some_iff.1 hb).1
  rw [heap_grow_old _ _ (by simpa using hg)]
  simp [putRow, mapBlock, Go.Sort.ahead, Array.getElem?_modify, hb, onCells]
theorem sp_grown {w : World} {g n : Nat} {os : Array Obj} (F : Array Value) : w.grownBy (grow (putRow id (Go.Sort.ahead w n) g 0 F) os) (some g) := by
  refine ⟨rfl, rfl, rfl, by simp, fun k hk hne => ?_⟩
  rw [heap_grow_old _ _ (by simpa using hk)]
  have : g ≠ k := fun e => hne (by rw [e])
  simp [putRow, mapBlock, Go.Sort.ahead, Array.getElem?_modify, this]
theorem sp_take (cur F : Array Value) (h : F.size ≤ cur.size) : (putCells id 0 F cur).toList.take F.size = F.toList := by
  apply List.ext_getElem?
  intro j
  by_cases hj : j < F.size
  · rw [List.getElem?_take_of_lt hj, Array.getElem?_toList]
    simp [putCells, hj, show j < cur.size by omega]
  · rw [List.getElem?_take_eq_none (by omega), List.getElem?_eq_none (by simpa using hj)]
theorem flatK_FLAT (d : Array Rw) : (flatK encR 2 d).toList = flatR d.toList := by
  apply List.ext_getElem
  · simp [flatR_len]
  intro t h1 h2
  have h1' : t < d.size * 2 := by simpa using h1
  have e1 : (flatK encR 2 d).toList[t] = (encR d[t / 2]!)[t % 2]! := by
    have := get_flatK encR 2 d t h1'
    rw [getElem!_pos _ t (by simpa using h1')] at this
    simpa using this
  rw [e1]
  have hq : t / 2 < d.toList.length := by simp; omega
  have hf := flatR_at d.toList (t / 2) hq
  have hd : d[t / 2]! = d.toList[t / 2] := by rw [getElem!_pos d (t / 2) (by simpa using hq)]; simp
  rw [hd]
  rcases Nat.mod_two_eq_zero_or_one t with h | h
  · have ht : t / 2 * 2 = t := by omega
    rw [ht, List.getElem?_eq_getElem h2] at hf
    rw [Option.some.inj hf.1, h]; rfl
  · have ht : t / 2 * 2 + 1 = t := by omega
    rw [ht, List.getElem?_eq_getElem h2] at hf
    rw [Option.some.inj hf.2, h]; rfl
theorem own_sorted {w : World} {base g c : Nat} {l k : List Rw} (h : w.ownsRow base 94 2 (.slice (some ⟨g, 0, none⟩) l.length c) l.length (flatR l)) (hl : k.length = l.length) (n : Nat) (os : Array Obj) :
    (sortWorldK encR 2 w g 0 n k.toArray os).ownsRow base 94 2 (.slice (some ⟨g, 0, none⟩) k.length c) k.length (flatR k) := by
  rcases h.2 with ⟨h0, _⟩ | ⟨g', c', cur, hv, hb, hh, h1, h2, h3, h4⟩
  · cases h0
  cases hv
  refine ⟨flatR_len k, .inr ⟨g, c, putCells id 0 (flatK encR 2 k.toArray) cur, rfl, hb, sp_cell_flat _ _ _ hh, by omega, h2, by simp [putCells, h3], ?_⟩⟩
  have := sp_take cur (flatK encR 2 k.toArray) (by simp; omega)
  rw [size_flatK, flatK_FLAT] at this
  simpa using this
theorem holds_own {w : World} {base g c : Nat} {l : List Rw} (h : w.ownsRow base 94 2 (.slice (some ⟨g, 0, none⟩) l.length c) l.length (flatR l)) : HoldsK encR 2 w g 0 l.toArray := by
  intro j hj
  have hj' : j < l.length * 2 := by simpa using hj
  refine ⟨?_, by rw [Nat.zero_add]; exact World.ownsRow.frozenAt h j⟩
  rw [Nat.zero_add]
  rw [World.ownsRow.cellAt h j (by omega)]
  have e : (flatK encR 2 l.toArray)[j]! = (flatK encR 2 l.toArray).toList[j]'(by simpa using hj') := by rw [getElem!_pos _ j hj]; simp
  show (flatR l)[j]? = some (id _)
  rw [e]
  have e2 := flatK_FLAT l.toArray
  simp only [id]
  rw [← List.getElem?_eq_getElem, e2]
theorem grown_sorted {w : World} {g n : Nat} {os : Array Obj} (k : Array Rw) : w.grownBy (sortWorldK encR 2 w g 0 n k os) (some g) := sp_grown _
end
end Go.Proofs.YtcnliipkfccohabGreat
end
section
namespace Go.Proofs.YtcnliipkfccohabGreat
open Go.ChangeShapes Go.WideShapes Go.ChangeAt Go.RowKit
open SetM
section
open Go.Sort Go.Proofs
theorem cmpT_neg (x y : ByteArray) : decide (cmpT x y < 0) = bl x y := by
  unfold cmpT
  cases h : bl x y
  · cases g : bl y x <;> simp
  · simp
theorem cmpT_zero (x y : ByteArray) : (cmpT x y = 0) ↔ x = y := by
  unfold cmpT
  constructor
  · intro h
    cases h1 : bl x y
    · cases h2 : bl y x
      · exact bl_tri _ _ h1 h2
      · rw [h1, h2] at h; simp at h
    · rw [h1] at h; simp at h
  · rintro rfl; rw [bl_irr]; rfl
theorem cmpR_neg (a b : Rw) : decide (cmpR a b < 0) = less a b := by
  unfold cmpR less
  by_cases h : cmpT a.1 b.1 = 0
  · rw [if_pos h, cmpT_neg]
    rw [cmpT_zero] at h
    rw [h, bl_irr, (eqB_iff _ _).2 rfl]; rfl
  · rw [if_neg h, cmpT_neg]
    rw [cmpT_zero] at h
    have : eqB a.1 b.1 = false := by rw [eqB_d]; simp [h]
    rw [this]; simp
theorem ltOf_less : ltOf cmpR = less := by
  funext a b
  exact cmpR_neg a b
theorem swo_less : SWO less where
  irrefl a := less_irr a
  trans _ _ _ h1 h2 := less_trans h1 h2
  ntrans a b c h1 h2 := le_trans (a := c) (b := b) (c := a) h2 h1
theorem sort_any (g c : Nat) (base : Nat) (l : List Rw) (w : World) (h : w.ownsRow base 94 2 (.slice (some ⟨g, 0, none⟩) l.length c) l.length (flatR l)) (hl : l.length ≤ 1000) :
    Calls Tryz.prog 109 #[.slice (some ⟨g, 0, none⟩) l.length c, .func (.func 110) #[] #[]] w fun e w' =>
      e = .returned (.tuple #[]) ∧ w.grownBy w' (some g) ∧ w'.ownsRow base 94 2 (.slice (some ⟨g, 0, none⟩) l.length c) (sortS l).length (flatR (sortS l)) := by
  have eg : ∀ args w, (callFunc 110 args).run Tryz.prog w = .ok (.enter 110 args) w := enters_of Tryz.func110 (by kernel_rfl) rfl
  have hg : g < w.heap.size := by
    rcases own_form h with ⟨h0, _⟩ | ⟨g', c', h0, _, h1, _⟩
    · cases h0
    · cases h0; exact h1
  have hcm : CmpLays Tryz.prog 110 #[] encR 2 cmpR g 0 l.toArray.size w := fun _ _ _ _ x y => closure_any x y _
  have hcon := AnyQ.slices_SortFunc sortRw 2 (fun w => by kernel_rfl) (fun w => by kernel_rfl) encR (fun _ => rfl) (fun x v hv => by simp [encR] at hv; rcases hv with rfl | rfl <;> rfl) cmpR (by rw [ltOf_less]; exact swo_less) 110 #[] g 0 c l.toArray w eg hcm (holds_own h) hg (by simp; omega)
  rw [ltOf_less] at hcon
  refine hcon.mono ?_
  rintro e w' ⟨he, d', n, os, hp, hs, rfl⟩
  have hu := sorted_unique_holds swo_less less_tot l.toArray d' hp hs
  obtain ⟨k⟩ := d'
  have hu' : k = sortS l := hu
  subst hu'
  have ho := own_sorted (k := sortS l) h (sortS_len l) n os
  rw [sortS_len] at ho ⊢
  exact ⟨he, grown_sorted _, ho⟩
end
section
open Go.Proofs
variable (fv : Value) (w : World)
theorem ins_none : Calls Tryz.prog 120 #[.slice none 0 0, .int .i64 0, .int .i64 0, fv] w fun e w' => e = .returned (.tuple #[]) ∧ w = w' := by
  go_enter Tryz.func120, Tryz.ntmps120
  go_wp2
  refine wp_loop_rounds 1 ?_
  rw [rounds_succ]
  go_wp2
  go_end0
  exact ⟨rfl, rfl⟩
set_option maxRecDepth 100000 in
set_option maxHeartbeats 2000000 in
theorem pdq_none (lim : Int) : Calls Tryz.prog 117 #[.slice none 0 0, .int .i64 0, .int .i64 0, .int .i64 lim, fv] w fun e w' => e = .returned (.tuple #[]) ∧ w = w' := by
  go_enter Tryz.func117, Tryz.ntmps117
  go_wp2
  refine wp_loop_rounds 1 ?_
  rw [rounds_succ]
  go_wp2_with (go_at_call 120; refine (ins_none _ _).mono ?_; rintro e w' ⟨rfl, rfl⟩)
  (try simp only [Exit.inBlock, Exit.then]); refine bodyPost_ret (results_none rfl _ _ _) rfl ?_
  exact ⟨rfl, rfl⟩
set_option maxRecDepth 100000 in
set_option maxHeartbeats 2000000 in
theorem sort_none : Calls Tryz.prog 109 #[.slice none 0 0, fv] w fun e w' => e = .returned (.tuple #[]) ∧ w = w' := by
  have hl : ∀ W, Calls Tryz.prog 118 #[.int .u64 0] W fun e w' => e = .returned (.int .i64 (Lib.bitLen 0 : Nat)) ∧ w' = W := fun W =>
    Any.bits_Len (SlLaysF0.n15.bits (P := Tryz.prog) (ρ := sortRw_ren) { sortRw with }) 0 W (by omega) (by omega)
  go_enter Tryz.func109, Tryz.ntmps109
  go_wp2_with (first | (go_at_call 118; refine (hl _).mono ?_; rintro e w' ⟨rfl, rfl⟩) | (go_at_call 117; refine (pdq_none _ _ _).mono ?_; rintro e w' ⟨rfl, rfl⟩))
  go_end0
  exact ⟨rfl, rfl⟩
end
end Go.Proofs.YtcnliipkfccohabGreat
end
section
namespace Go.Proofs.YtcnliipkfccohabGreat
open Go.ChangeShapes Go.WideShapes Go.ChangeAt Go.RowKit
open SetM
attribute [local go_sem ↓] Go.wp_at_zero Go.wp_at_succ
attribute [local go_sem] later_cell later_frozen lt_bl le_bl
theorem flatR_set (l : List Rw) (i : Nat) (h : i < l.length) (s : Rw) : ((flatR l).set (i * 2) (.string s.1)).set (i * 2 + 1) (.string s.2) = flatR (l.set i s) := by
  induction l generalizing i with
  | nil => simp at h
  | cons a r ih =>
    cases i with
    | zero => rfl
    | succ i =>
      have e : ∀ (b : Rw) (q : List Rw), flatR (b :: q) = .string b.1 :: .string b.2 :: flatR q := fun _ _ => rfl
      have h1 : (i + 1) * 2 = i * 2 + 1 + 1 := by omega
      rw [e, h1, List.set_cons_succ, List.set_cons_succ, List.set_cons_succ, List.set_cons_succ, ih i (by simpa using h), List.set_cons_succ, e]
theorem max_str (ats : Array TypeId) (ty : TypeId) (x y : ByteArray) (w : World) : (Builtin.max_ ats ty #[.string x, .string y]).run Tryz.prog w = .ok (.string (mx x y)) w := by
  have h : mx x y = if (!bl x y) = true then x else y := by
    unfold mx; cases bl x y <;> rfl
  rw [h]
  simp [Builtin.max_, Builtin.max2, Op.stringOp, asBool, bl]
attribute [local go_sem] max_str
section
variable {P : Program}
theorem wpList_inplace {ops : Array Oper} {rest : List Oper} {o : Oper} {a : Act} {Q : Exit → Act → World → Prop} (w0 : World) (hgd : o.guard = none) (s x : Operand) (t : TypeId)
    (ho : o.op = .call { callee := .builtin .append, args := #[s, x], argTypes := #[t, t] })
    (base : Nat) (e : TypeId) (i : TypeInfo) (ht : P.underlying t = some (.slice e)) (hi : P.info? e = some i) (hsize : i.size = 2)
    (g n c k : Nat) (xs : List Value) (hs : a.eval s = .slice (some ⟨g, 0, none⟩) k c) (hown : w0.ownsRow base e 2 (.slice (some ⟨g, 0, none⟩) n c) n xs) (hk : k < n) (hnc : n ≤ c)
    (u1 u2 : Value) (h1 : u1.oneCell' = true) (h2 : u2.oneCell' = true) (hx : a.eval x = .slice (some ⟨w0.heap.size, 0, none⟩) 1 1)
    (h : ∀ w', w'.ownsRow base e 2 (.slice (some ⟨g, 0, none⟩) n c) n ((xs.set (k * 2) u1).set (k * 2 + 1) u2) → w0.grownBy w' (some g) → wpList P ops Q rest (a.put o.dst (.slice (some ⟨g, 0, none⟩) (k + 1) c)) w') :
    wpList P ops Q (o :: rest) a (w0.alloc (.cells #[u1, u2] e)) := by
  have hown2 := hown.alloc (.cells #[u1, u2] e)
  have hc : ∀ j, j < n * 2 → ((w0.alloc (.cells #[u1, u2] e)).cell? ⟨g, j, none⟩).isSome = true := fun j hj => by
    rw [World.ownsRow.cellAt hown2 j hj]
    have : j < xs.length := by rw [hown2.1]; exact hj
    simp [this]
  have hr := run_append_room_cells (P := P) (w0.alloc (.cells #[u1, u2] e)) t o.type e i ht hi g 0 k c ⟨w0.heap.size, 0, none⟩ 1 1 [u1, u2] (by rw [hsize]; rfl)
    (fun j u hu => cells_lit w0 #[u1, u2] e j u hu) (by simp [h1, h2]) (by omega)
    (fun j hj => by rw [hsize]; exact hc _ (by simp at hj; omega)) (fun j hj => World.ownsRow.frozenAt hown2 _)
  rw [hsize, Nat.zero_add] at hr
  have s1 := World.ownsRow.stored hown2 (k * 2) u1
  have s2 := World.ownsRow.stored s1.1 (k * 2 + 1) u2
  refine wpList_plain hgd fun K hK => ?_
  unfold Oper.wp execOp
  simp only [ho, resolve, invoke, builtin, Sem.run_bind, Sem.run_pure, Result.andThen_ok, List.map_toArray, List.map_cons, List.map_nil, hs, hx, hr]
  refine hK _ _ (h _ s2.1 ?_)
  have g1 := s1.2
  have g2 := s2.2
  exact ⟨g2.os.trans g1.os, g2.tape.trans g1.tape, g2.output.trans g1.output, Nat.le_trans (by simp) (Nat.le_trans g1.size g2.size), fun q hq hne =>
    ((g2.block q (Nat.lt_of_lt_of_le (by simp; omega) g1.size) hne).trans (g1.block q (by simp; omega) hne)).trans (Below.heap_alloc w0 _ q hq)⟩
end
theorem kstep (M S A : List Rw) (i k : Nat) (x : Rw) (hi : i ≤ k) (hM : M.length = S.length) (hk : k < S.length) (hd : M.drop k = S.drop k) (ht : M.take i = A) :
    (M.set i x).take (i + 1) = A ++ [x] ∧ (M.set i x).drop (k + 1) = S.drop (k + 1) ∧ (M.set i x).length = S.length := by
  refine ⟨?_, ?_, by simp [hM]⟩
  · rw [List.take_succ_eq_append_getElem (by simp; omega), List.getElem_set_self, List.take_set_of_le (Nat.le_refl i), ht]
  · rw [List.drop_set_of_lt (by omega), ← List.drop_drop, hd, List.drop_drop]
theorem kget (M S : List Rw) (k : Nat) (hM : M.length = S.length) (hk : k < S.length) (hd : M.drop k = S.drop k) : M[k]'(by omega) = S[k] := by
  have h1 := List.drop_eq_getElem_cons (l := M) (i := k) (by omega)
  have h2 := List.drop_eq_getElem_cons hk
  rw [h1, h2] at hd
  exact (List.cons.inj hd).1
theorem flatR_take (l : List Rw) (k : Nat) : (flatR l).take (k * 2) = flatR (l.take k) := by
  induction l generalizing k with
  | nil => simp [flatR]
  | cons a r ih =>
    cases k with
    | zero => simp [flatR]
    | succ k =>
      have e : ∀ (b : Rw) (q : List Rw), flatR (b :: q) = .string b.1 :: .string b.2 :: flatR q := fun _ _ => rfl
      rw [show (k + 1) * 2 = k * 2 + 1 + 1 by omega, e, List.take_succ_cons, List.take_succ_cons, ih k, List.take_succ_cons, e]
theorem own_front {w : World} {base : Nat} {e : TypeId} {size g n c m : Nat} {xs ys : List Value} (h : w.ownsRow base e size (.slice (some ⟨g, 0, none⟩) n c) n xs) (hm : m ≤ n) (hy : xs.take (m * size) = ys) :
    w.ownsRow base e size (.slice (some ⟨g, 0, none⟩) m c) m ys := by
  rcases h.2 with ⟨h0, _⟩ | ⟨g', c', cur, hv, hb, hh, h1, h2, h3, h4⟩
  · cases h0
  cases hv
  have hms : m * size ≤ n * size := Nat.mul_le_mul_right _ hm
  refine ⟨by rw [← hy, List.length_take, h.1]; omega, .inr ⟨g, c, cur, rfl, hb, hh, by omega, h2, h3, ?_⟩⟩
  rw [← hy, ← h4, List.take_take, Nat.min_eq_left hms]
def okU (l : List Rw) : List Rw := l.filter rowB
theorem okU_next (l : List Rw) (j : Nat) (h : j < l.length) : okU (l.take (j + 1)) = okU (l.take j) ++ (if rowB l[j] = true then [l[j]] else []) := by
  unfold okU
  rw [List.take_succ_eq_append_getElem h, List.filter_append]
  by_cases hb : rowB l[j] = true <;> simp [hb]
theorem okU_le (l : List Rw) (j : Nat) : (okU (l.take j)).length ≤ j := by
  have h1 := List.length_filter_le rowB (l.take j)
  have h2 : (l.take j).length ≤ j := by simp; omega
  unfold okU; omega
def FInvU (l : List Rw) (w : World) (v i : Value) (wr : World) : Prop :=
  ∃ j : Nat, i = .int .i64 j ∧ j ≤ l.length ∧ wr.ownsRow w.heap.size 94 2 v (okU (l.take j)).length (flatR (okU (l.take j))) ∧ Below w.heap.size w wr
def KInv (S : List Rw) (w : World) (g c : Nat) (v i : Value) (wr : World) : Prop :=
  ∃ (k n : Nat) (acc M : List Rw), i = .int .i64 k ∧ k ≤ S.length ∧ Hid (uniF (S.take k) = acc) ∧ n ≤ k ∧ Hid (acc.length = n) ∧ v = .slice (some ⟨g, 0, none⟩) n c ∧ Hid (M.length = S.length) ∧ Hid (M.take n = acc) ∧ Hid (M.drop k = S.drop k) ∧
    wr.ownsRow w.heap.size 94 2 (.slice (some ⟨g, 0, none⟩) S.length c) S.length (flatR M) ∧ Below w.heap.size w wr
set_option maxRecDepth 100000 in
set_option maxHeartbeats 4000000 in
theorem union_any (v : Value) (l : List Rw) (w : World) (h : RwAt w v l) (hl : l.length ≤ 1000) (hsh : ∀ s ∈ l, Short s) :
    Calls Tryz.prog 91 #[v] w fun e w' => ∃ v', e = .returned v' ∧ Below w.heap.size w w' ∧ w'.ownsRow w.heap.size 94 2 v' (uniF (sortS (okU l))).length (flatR (uniF (sortS (okU l)))) := by
  obtain ⟨i0, hi0, hz0', hz1, hz2⟩ := info_parts info_rw
  have HW := hide h
  have HSH := hide hsh
  obtain ⟨aA, cA, rfl⟩ := rwat_len h
  obtain ⟨U, hU⟩ : ∃ U, uniF (sortS (okU l)) = U := ⟨_, rfl⟩
  rw [hU]
  have HUU := hide hU
  clear h hsh hU
  go_enter Tryz.func91, Tryz.ntmps91
  go_wp2
  go_loopw [3, 12] (fun v i wr => FInvU l w v i wr) (fun _ i _ => l.length - (intOf i).toNat)
  case atStart => exact ⟨0, rfl, Nat.zero_le _, ⟨rfl, .inl ⟨rfl, rfl⟩⟩, bl_refl w⟩
  case round =>
    obtain ⟨j, rfl, hj, hv, hbl⟩ := hrel
    by_cases hlt : j < l.length
    · obtain ⟨b1, o1, c1, hv1, hc1, hm1, hlb1, hcell1⟩ := rwat_some (rwat_below HW.out hbl) (by omega)
      injection hv1 with hv1 _ hv1c
      subst hv1 hv1c
      unfold maxLen at hm1
      obtain ⟨x1, x2⟩ := hcell1 j hlt
      have hus := okU_next l j hlt
      have hul := okU_le l j
      have hss := HSH.out l[j] (List.getElem_mem hlt)
      clear hcell1
      obtain ⟨s, hs⟩ : ∃ s, l[j] = s := ⟨_, rfl⟩
      rw [hs] at hus x1 x2 hss
      have HUS := hide hus
      clear hus hs
      obtain ⟨acc, hacc⟩ : ∃ acc, okU (l.take j) = acc := ⟨_, rfl⟩
      rw [hacc] at HUS hv hul
      have fin : ∀ (v' : Value) (W : World) (acc' : List Rw), acc ++ (if rowB s = true then [s] else []) = acc' → W.ownsRow w.heap.size 94 2 v' acc'.length (flatR acc') → Below w.heap.size w W → FInvU l w v' (.int .i64 ((j : Int) + 1)) W :=
        fun v' W acc' h1 h2 h3 => ⟨j + 1, by go_num, by omega, by rw [HUS.out, h1]; exact h2, h3⟩
      have FIN := hide fin
      clear fin HUS hacc
      obtain ⟨r, hr⟩ : ∃ r, rowB s = r := ⟨_, rfl⟩
      have HR := hide hr
      have hv2 := hv.alloc (.cells #[.string s.1, .string s.2] 94)
      have hbl2 := bl_alloc hbl (.cells #[.string s.1, .string s.2] 94)
      have hbw : w.heap.size ≤ wr.heap.size := hbl.size
      obtain ⟨aV, cV, rfl⟩ := own_slice hv
      clear hv hr
      go_wp2_with fail
      refine (may_any s r _ hss HR.out).mono ?_
      rintro e w1 ⟨rfl, hb1⟩
      have d1 : w1.cell? ⟨wr.heap.size, 0, none⟩ = some (.string s.1) := by rw [(bl_cell hb1).1 _ _ (by simp)]; go_simp
      have d2 : w1.cell? ⟨wr.heap.size, 1, none⟩ = some (.string s.2) := by rw [(bl_cell hb1).1 _ _ (by simp)]; go_simp
      have hv3 := own_below hv2 hb1
      have hbl3 := bl_trans hbl2 hb1
      have hbs : wr.heap.size + 1 ≤ w1.heap.size := by have := hb1.size; simpa using this
      clear hb1 hv2 hbl2 x1 x2
      cases r
      · have HV3 := hide hv3
        clear hv3
        go_wp2
        refine ⟨?_, by first | (simp [intOf]; done) | (simp [intOf]; omega)⟩
        refine FIN.out _ _ acc ?_ HV3.out hbl3
        rw [HR.out]; simp
      · go_wp2_with (at_builtin; (refine wpList_push w1 rfl _ _ 22 rfl w.heap.size 94 i0 (.agg #[.string ⟨#[]⟩, .string ⟨#[]⟩]) 2 32 Tryz.underlying22 hi0 hz0' hz1 hz2 rfl (by decide) (.slice aV acc.length cV) acc.length (flatR acc) rfl hv3 1 #[.string s.1, .string s.2] rfl rfl (by simp [Value.oneCell']) (by omega) (by decide) (by omega) ?_); intro v' w4 hv4 hg4 hat)
        have hv5 : w4.ownsRow w.heap.size 94 2 v' (acc ++ [s]).length (flatR (acc ++ [s])) := by
          rw [flatR_app, List.length_append]; exact hv4
        have hbl4 : Below w.heap.size w w4 := bl_own hbl3 hv3 hg4 (Nat.le_refl _)
        refine ⟨?_, by first | (simp [intOf]; done) | (simp [intOf]; omega)⟩
        refine FIN.out _ _ (acc ++ [s]) ?_ hv5 hbl4
        rw [HR.out]; simp
    · obtain rfl : j = l.length := by omega
      rw [List.take_length] at hv
      have hfl : (okU l).length ≤ 1000 := by
        have := okU_le l l.length
        rw [List.take_length] at this; omega
      obtain ⟨L, hL⟩ : ∃ L, okU l = L := ⟨_, rfl⟩
      rw [hL] at hv hfl
      have hU2 := HUU.out
      rw [hL] at hU2
      have HU2 := hide hU2
      clear hL HW HSH hlt HUU hU2
      have HO := hide hv
      rcases own_form hv with ⟨rfl, h1, h2⟩ | ⟨g, c, rfl, h1, h2, h3, h4, h5⟩
      · have hl0 : L = [] := List.eq_nil_of_length_eq_zero h1
        subst hl0
        clear h1 h2 hv HO
        go_wp2_with fail
        refine (sort_none _ _).mono ?_
        rintro e w2 ⟨rfl, rfl⟩
        go_wp2
        refine wp_loop_rounds 1 ?_
        rw [rounds_succ]
        go_wp2
        go_ret
        have e : uniF (sortS []) = [] := by rw [List.eq_nil_of_length_eq_zero (sortS_len [])]; rfl
        have e2 := HU2.out
        rw [e] at e2
        subst e2
        exact ⟨_, rfl, hbl, ⟨rfl, .inl ⟨rfl, rfl⟩⟩⟩
      · clear h5 hv
        go_wp2_with fail
        refine (sort_any g c w.heap.size L _ HO.out hfl).mono ?_
        rintro e w2 ⟨rfl, hg2, ho2⟩
        have hb2 : Below w.heap.size w w2 := bl_grown hbl hg2 (fun k hk => by cases hk; exact h1)
        have hS := sortS_len L
        obtain ⟨S, hSS⟩ : ∃ S, sortS L = S := ⟨_, rfl⟩
        rw [hSS] at hS ho2
        have hU3 := HU2.out
        rw [hSS] at hU3
        have HU3 := hide hU3
        have hlS : L.length = S.length := hS.symm
        rw [hlS] at h3 hfl ⊢
        rw [hlS] at ho2
        clear HU2 hU3
        unfold maxLen at h4
        clear hSS hS hlS HO hg2 h2 hbl
        go_wp2
        go_loopw [6, 29] (fun v i wr => KInv S w g c v i wr) (fun _ i _ => S.length - (intOf i).toNat)
        case atStart => exact ⟨0, 0, [], S, rfl, Nat.zero_le _, hide rfl, Nat.le_refl _, hide rfl, rfl, hide rfl, hide rfl, hide rfl, ho2, hb2⟩
        case round =>
          clear ho2 hb2
          obtain ⟨k, n, acc, M, rfl, hk, HU, hak, HAL, rfl, HML, HMT, HMD, hv, hbl⟩ := hrel
          by_cases hlt : k < S.length
          · have hget := kget M S k HML.out hlt HMD.out
            have hus := uniF_snoc S k hlt
            rw [HU.out] at hus
            obtain ⟨s, hs⟩ : ∃ s, S[k] = s := ⟨_, rfl⟩
            rw [hs] at hus hget
            have hMk : k < M.length := by rw [HML.out]; exact hlt
            have hfa := flatR_at M k hMk
            rw [hget] at hfa
            have x1 : wr.cell? ⟨g, k * 2, none⟩ = some (.string s.1) := by rw [World.ownsRow.cellAt hv (k * 2) (by omega)]; exact hfa.1
            have x2 : wr.cell? ⟨g, k * 2 + 1, none⟩ = some (.string s.2) := by rw [World.ownsRow.cellAt hv (k * 2 + 1) (by omega)]; exact hfa.2
            have fin : ∀ (W : World) (i : Nat) (A : List Rw) (x : Rw), i ≤ k → M.take i = A → stepU acc s = A ++ [x] → W.ownsRow w.heap.size 94 2 (.slice (some ⟨g, 0, none⟩) S.length c) S.length (flatR (M.set i x)) → Below w.heap.size w W → KInv S w g c (.slice (some ⟨g, 0, none⟩) (i + 1) c) (.int .i64 ((k : Int) + 1)) W := by
              intro W i A x hi hA hst ho hb
              have h1 := kstep M S A i k x hi HML.out hlt HMD.out hA
              have hAl : A.length = i := by rw [← hA, List.length_take, HML.out]; omega
              exact ⟨k + 1, i + 1, A ++ [x], M.set i x, by go_num, by omega, hide (by rw [hus, hst]), by omega, hide (by simp [hAl]), rfl, hide h1.2.2, hide h1.1, hide h1.2.1, ho, hb⟩
            have FIN := hide fin
            clear fin hus hs hfa hget hMk HMD HU
            have hbw : w.heap.size ≤ wr.heap.size := hbl.size
            have hgl : g < wr.heap.size := by
              rcases own_form hv with ⟨h0, _⟩ | ⟨g', c', h0, _, h1, _⟩
              · cases h0
              · cases h0; exact h1
            have hML := HML.out
            rcases List.eq_nil_or_concat acc with rfl | ⟨a0, t, rfl⟩
            · obtain rfl : n = 0 := by have := HAL.out; simpa using this.symm
              have hd : decide ((0 : Int) ≤ -1) = false := by decide
              clear HAL
              have HV2 := hide (hv.alloc (.cells #[.string s.1, .string s.2] 94))
              have hbl2 := bl_alloc hbl (.cells #[.string s.1, .string s.2] 94)
              have HST := hide (step_nil s)
              have HML2 := hide hML
              have hset := flatR_set M 0 (by omega) s
              rw [Nat.zero_mul, Nat.zero_add] at hset
              have HSET := hide hset
              clear hv hML HMT hset
              go_wp2
              go_quiet (fail)
              go_wp2_with (at_builtin; (refine wpList_inplace ((wr.alloc (.cells #[.string s.1, .string s.2] 94)).drewN nq) rfl _ _ 22 rfl w.heap.size 94 i0 Tryz.underlying22 hi0 hz1 g S.length c 0 (flatR M) rfl HV2.out (by omega) h3 (.string s.1) (.string s.2) rfl rfl (by show Value.slice (some ⟨wr.heap.size + 1, 0, none⟩) 1 1 = _; simp) ?_); intro w4 hv4 hg4)
              have hbl4 : Below w.heap.size w w4 := bl_grown (bl_drewN hbl2 nq) hg4 (fun q hq => by cases hq; exact h1)
              refine ⟨?_, by first | (simp [intOf]; done) | (simp [intOf]; omega)⟩
              refine FIN.out _ 0 [] s (by omega) rfl HST.out ?_ hbl4
              rw [← HSET.out]; exact hv4
            · rw [List.concat_eq_append] at *
              have hlen : (a0 ++ [t]).length = a0.length + 1 := by simp
              obtain rfl : n = a0.length + 1 := by have := HAL.out; rw [hlen] at this; exact this.symm
              have hMT := HMT.out
              clear HAL
              have hMm : M[a0.length]'(by omega) = t := by
                have h0 : (M.take (a0.length + 1))[a0.length]'(by simp; omega) = M[a0.length]'(by omega) := List.getElem_take
                rw [← h0]
                simp only [hMT]
                simp
              have hM0 : M.take a0.length = a0 := by
                have h0 := congrArg (List.take a0.length) hMT
                rw [List.take_take, Nat.min_eq_left (by omega)] at h0
                rw [h0]; simp
              have hfm := flatR_at M a0.length (by omega)
              rw [hMm] at hfm
              have y1 : wr.cell? ⟨g, a0.length * 2, none⟩ = some (.string t.1) := by rw [World.ownsRow.cellAt hv (a0.length * 2) (by omega)]; exact hfm.1
              have y2 : wr.cell? ⟨g, a0.length * 2 + 1, none⟩ = some (.string t.2) := by rw [World.ownsRow.cellAt hv (a0.length * 2 + 1) (by omega)]; exact hfm.2
              have yf := World.ownsRow.frozenAt hv (a0.length * 2 + 1)
              have hd : decide ((0 : Int) ≤ (a0.length : Int)) = true := by simp
              have HV2 := hide (hv.alloc (.cells #[.string s.1, .string s.2] 94))
              have hbl2 := bl_alloc hbl (.cells #[.string s.1, .string s.2] 94)
              have hset1 := flatR_set M (a0.length + 1) 
              have hset2 := flatR_set1 M a0.length (by omega) (mx t.2 s.2)
              rw [hMm] at hset2
              have HM := hide (And.intro hM0 hMT)
              have HS1 := hide hset1
              have HS2 := hide hset2
              have HLEN := hide hlen
              have HML2 := hide hML
              clear hset1 hset2 hv hfm hMm hM0 hMT HMT hlen
              cases hr : bl t.2 s.1
              · have HST := hide (step_on a0 t s hr)
                have fin2 : ∀ q, KInv S w g c (.slice (some ⟨g, 0, none⟩) (a0.length + 1) c) (.int .i64 ((k : Int) + 1)) (((wr.alloc (.cells #[.string s.1, .string s.2] 94)).drewN q).drew.setCell ⟨g, a0.length * 2 + 1, none⟩ (.string (mx t.2 s.2))) := by
                  intro q
                  have h9 := (World.ownsRow.stored (World.ownsRow.drew (own_below HV2.out (bl_drewN (bl_refl _) q))) (a0.length * 2 + 1) (.string (mx t.2 s.2))).1
                  rw [HS2.out] at h9
                  exact FIN.out _ a0.length a0 _ (by omega) HM.out.1 HST.out h9 (bl_set (bl_drew (bl_drewN hbl2 q)) h1 _)
                have FIN2 := hide fin2
                clear fin2 hML
                go_wp2
                go_quiet (fail)
                go_wp2
                go_region
                all_goals
                  go_wp2
                  refine ⟨?_, by first | (simp [intOf]; done) | (simp [intOf]; omega)⟩
                  exact FIN2.out _
              · have HST := hide (step_new a0 t s hr)
                clear hML
                go_wp2
                go_quiet (fail)
                go_wp2_with (at_builtin; (refine wpList_inplace ((wr.alloc (.cells #[.string s.1, .string s.2] 94)).drewN nq) rfl _ _ 22 rfl w.heap.size 94 i0 Tryz.underlying22 hi0 hz1 g S.length c (a0.length + 1) (flatR M) rfl HV2.out (by omega) h3 (.string s.1) (.string s.2) rfl rfl (by show Value.slice (some ⟨wr.heap.size + 1, 0, none⟩) 1 1 = _; simp) ?_); intro w4 hv4 hg4)
                have hbl4 : Below w.heap.size w w4 := bl_grown (bl_drewN hbl2 nq) hg4 (fun q hq => by cases hq; exact h1)
                refine ⟨?_, by first | (simp [intOf]; done) | (simp [intOf]; omega)⟩
                refine FIN.out _ (a0.length + 1) (a0 ++ [t]) s (by omega) HM.out.2 HST.out ?_ hbl4
                rw [← HS1.out (by have := HML2.out; omega) s]; exact hv4
          · obtain rfl : k = S.length := by omega
            have hU4 := HU.out
            rw [List.take_length, HU3.out] at hU4
            subst hU4
            have hUl := uniF_le S
            rw [HU3.out] at hUl
            obtain rfl : n = U.length := HAL.out.symm
            have htk : (flatR M).take (U.length * 2) = flatR U := by
              have h0 := HMT.out
              rw [flatR_take, h0]
            have HO := hide (own_front hv hUl htk)
            clear hv HU HMT HMD HML hlt htk
            go_wp2
            go_ret
            exact ⟨_, rfl, hbl, HO.out⟩
end Go.Proofs.YtcnliipkfccohabGreat
end
section
namespace Go.Proofs.YtcnliipkfccohabGreat
open Go.ChangeShapes Go.WideShapes Go.ChangeAt Go.RowKit
open SetM
attribute [local go_sem ↓] Go.wp_at_zero Go.wp_at_succ
attribute [local go_sem] later_cell later_frozen lt_bl le_bl
theorem bl_d (a b : ByteArray) : bl a b = decide (a.data.toList < b.data.toList) := by
  rw [Bool.eq_iff_iff, bl_iff]; simp
theorem lit_rwat (w : World) (b : Nat) (l : List Rw) (hm : l.length ≤ 1000) (h : ∀ i (h : i < l.length), w.cell? ⟨b, i * 2, none⟩ = some (.string l[i].1) ∧ w.cell? ⟨b, i * 2 + 1, none⟩ = some (.string l[i].2)) :
    RwAt w (.slice (some ⟨b, 0, none⟩) l.length l.length) l :=
  .inr ⟨_, _, rfl, Nat.le_refl _, by unfold maxLen; omega, fun i hi => by rw [addr_add, addr_add, Nat.zero_add, Nat.zero_add]; exact h i hi⟩
theorem alloc_rwat (w : World) (l : List Rw) (hm : l.length ≤ 1000) : RwAt (w.alloc (.cells (flatR l).toArray 94)) (.slice (some ⟨w.heap.size, 0, none⟩) l.length l.length) l :=
  lit_rwat _ _ l hm fun i hi => by
    have h1 := World.cell?_alloc_mark w (flatR l).toArray 94 (0, 0) (i * 2)
    have h2 := World.cell?_alloc_mark w (flatR l).toArray 94 (0, 0) (i * 2 + 1)
    have hf := flatR_at l i hi
    exact ⟨by rw [h1, ← hf.1]; simp, by rw [h2, ← hf.2]; simp⟩
def rD : List Rw := [(⟨#[48]⟩, ⟨#[57]⟩)]
def rW : List Rw := [(⟨#[48]⟩, ⟨#[57]⟩), (⟨#[65]⟩, ⟨#[90]⟩), (⟨#[95]⟩, ⟨#[95]⟩), (⟨#[97]⟩, ⟨#[122]⟩)]
def rS : List Rw := [(⟨#[9]⟩, ⟨#[13]⟩), (⟨#[32]⟩, ⟨#[32]⟩)]
def namR (c : Int) : List Rw := if c = 100 then rD else if c = 119 then rW else if c = 115 then rS else []
def namB (c : Int) : Bool := decide (c = 100 ∨ c = 119 ∨ c = 115)
theorem may_rW : mayF rW = true := by
  simp only [rW, mayF, rowB, bl_d]; decide +kernel
theorem may_rD : mayF rD = true := by
  simp only [rD, mayF, rowB, bl_d]; decide +kernel
theorem may_rS : mayF rS = true := by
  simp only [rS, mayF, rowB, bl_d]; decide +kernel
end Go.Proofs.YtcnliipkfccohabGreat
end
section
namespace Go.Proofs.YtcnliipkfccohabGreat
open Go.ChangeShapes Go.WideShapes Go.ChangeAt Go.RowKit
open SetM
attribute [local go_sem ↓] Go.wp_at_zero Go.wp_at_succ
set_option maxRecDepth 100000
set_option linter.unusedVariables false
mutual
  theorem sM_er : ∀ t, sM (er t) = sM t
    | .mk _ _ _ _ _ _ _ _ _ l => by rw [er, sM, sM, sL_er l]
  theorem sL_er : ∀ l, sL (erL l) = sL l
    | [] => by rw [erL]
    | t :: l => by rw [erL, sL, sL, sM_er t, sL_er l]
end
theorem seqk_map (p : Int → Bool) (l : List Rt) : (l.map er).all (fun t => p t.k) = l.all (fun t => p t.k) := by
  rw [List.all_map]
  congr 1
  funext t
  rw [Function.comp, er_eq]
  rfl
theorem mkB_er (k : Int) (l : List Rt) : mkB k (l.map er) = mkB k l := by
  unfold mkB
  rw [List.length_map, seqk_map seqkB, seqk_map altkB, seqk_map atomB]
mutual
  theorem okM_er : ∀ t, okM (er t) = okM t
    | .mk _ _ _ _ _ _ _ _ _ l => by rw [er, okM, okM, okL_er l, erL_map, mkB_er]
  theorem okL_er : ∀ l, okL (erL l) = okL l
    | [] => by rw [erL]
    | t :: l => by rw [erL, okL, okL, okM_er t, okL_er l]
end
theorem cnB_er {a b : Rt} (h : er a = b) (g L : Int) : cnB a g L = cnB b g L := by
  unfold cnB
  rw [← h, pM_er, dM_er, okM_er]
end Go.Proofs.YtcnliipkfccohabGreat
end
section
namespace Go.Proofs.YtcnliipkfccohabGreat
section
open Go.ChangeShapes Go.WideShapes Go.ChangeAt Go.RowKit
attribute [local go_sem ↓] Go.wp_at_zero Go.wp_at_succ
set_option maxRecDepth 100000
set_option linter.unusedVariables false
def hdC (l : List UInt8) : List UInt8 := l.take (firstN l)
def tlC (l : List UInt8) : List UInt8 := l.drop (firstN l)
theorem hdC_len (l : List UInt8) : (hdC l).length = firstN l := by rw [hdC, List.length_take]; exact Nat.min_eq_left (firstN_le l)
theorem hd_tl (l : List UInt8) : hdC l ++ tlC l = l := List.take_append_drop _ _
theorem tl_len (l : List UInt8) (h : l ≠ []) : (tlC l).length < l.length := by
  have h1 : 0 < l.length := List.length_pos_iff.2 h
  have := firstN_pos l h1
  rw [tlC, List.length_drop]; omega
theorem tl_le (l : List UInt8) : (tlC l).length ≤ l.length := by rw [tlC, List.length_drop]; omega
def SpAtC (w : World) (b o : Nat) (s : ByteArray) (k : Nat) : Prop := w.cell? ⟨b, o, none⟩ = some (.string s) ∧ w.cell? ⟨b, o + 1, none⟩ = some (.int .i64 k)
structure Mvd (w w' : World) (b o k : Nat) : Prop where
  grown : w.grownBy w' (some b)
  cells : ∀ q, q ≠ o + 1 → w'.cell? ⟨b, q, none⟩ = w.cell? ⟨b, q, none⟩
  pos : w'.cell? ⟨b, o + 1, none⟩ = some (.int .i64 k)
  froz : ∀ q, w'.frozen? ⟨b, q, none⟩ = w.frozen? ⟨b, q, none⟩
theorem mvd_bl {w w' : World} {b o k : Nat} (hb : Below w.heap.size w w') (h : w.cell? ⟨b, o + 1, none⟩ = some (.int .i64 k)) : Mvd w w' b o k := by
  have hl := World.block_lt_of_cell? _ _ h
  exact ⟨⟨hb.os, hb.tape, hb.output, hb.size, fun i hi _ => hb.block i hi⟩, fun q _ => hb.cell (p := ⟨b, q, none⟩) hl, cell_later hb h, fun q => hb.frozen (p := ⟨b, q, none⟩) hl⟩
theorem Mvd.lt {w w' : World} {b o k : Nat} (h : Mvd w w' b o k) : b < w'.heap.size := World.block_lt_of_cell? _ _ h.pos
theorem Mvd.trans {w w1 w2 : World} {b o k k2 : Nat} (h : Mvd w w1 b o k) (g : Mvd w1 w2 b o k2) : Mvd w w2 b o k2 :=
  ⟨⟨g.grown.os.trans h.grown.os, g.grown.tape.trans h.grown.tape, g.grown.output.trans h.grown.output, Nat.le_trans h.grown.size g.grown.size, fun i hi hn => (g.grown.block i (Nat.lt_of_lt_of_le hi h.grown.size) hn).trans (h.grown.block i hi hn)⟩,
    fun q hq => (g.cells q hq).trans (h.cells q hq), g.pos, fun q => (g.froz q).trans (h.froz q)⟩
theorem Mvd.bl {w w1 w2 : World} {b o k : Nat} (h : Mvd w w1 b o k) (hb : Below w1.heap.size w1 w2) : Mvd w w2 b o k := h.trans (mvd_bl hb h.pos)
theorem Mvd.set {w w1 : World} {b o k : Nat} (h : Mvd w w1 b o k) (k' : Nat) : Mvd w (w1.setCell ⟨b, o + 1, none⟩ (.int .i64 k')) b o k' :=
  ⟨grown_set h.grown _ _, fun q hq => (World.cell?_setCell_other _ _ _ _ (fun e => hq (by injection e with _ e; exact e.symm))).trans (h.cells q hq), World.cell?_setCell_same _ _ _ h.pos, fun q => by rw [World.frozen?_setCell]; exact h.froz q⟩
theorem Mvd.at {w w' : World} {b o k k0 : Nat} {s : ByteArray} (h : Mvd w w' b o k) (h0 : SpAtC w b o s k0) : SpAtC w' b o s k := ⟨(h.cells o (by omega)).trans h0.1, h.pos⟩
theorem spot_bl {w w' : World} {b o : Nat} {s : ByteArray} {k : Nat} (h : SpAtC w b o s k) (hb : Below w.heap.size w w') : SpAtC w' b o s k := ⟨cell_later hb h.1, cell_later hb h.2⟩
structure Pl (w : World) (b : Nat) (s : ByteArray) (l : List UInt8) : Prop where
  mem : SpAtC w b 0 s (s.size - l.length)
  fz : w.frozen? ⟨b, 1, none⟩ = false
  suf : l <:+ s.data.toList
  sz : s.size ≤ 100000
theorem Pl.le {w : World} {b : Nat} {s : ByteArray} {l : List UInt8} (h : Pl w b s l) : l.length ≤ s.size := by have := h.suf.length_le; rwa [show s.data.toList.length = s.size from Array.length_toList] at this
theorem Pl.drop {w : World} {b : Nat} {s : ByteArray} {l : List UInt8} (h : Pl w b s l) : s.data.toList.drop (s.size - l.length) = l := by
  have := List.suffix_iff_eq_drop.1 h.suf
  rw [show s.data.toList.length = s.size from Array.length_toList] at this
  exact this.symm
theorem Pl.bl {w w' : World} {b : Nat} {s : ByteArray} {l : List UInt8} (h : Pl w b s l) (hb : Below w.heap.size w w') : Pl w' b s l :=
  ⟨spot_bl h.mem hb, (hb.frozen (p := ⟨b, 1, none⟩) (show b < w.heap.size from World.block_lt_of_cell? _ _ h.mem.1)).trans h.fz, h.suf, h.sz⟩
def Mv (w w' : World) (b : Nat) (s : ByteArray) (l : List UInt8) : Prop := Mvd w w' b 0 (s.size - l.length) ∧ l <:+ s.data.toList
theorem Mv.pl {w w' : World} {b : Nat} {s : ByteArray} {l l' : List UInt8} (h : Mv w w' b s l') (h0 : Pl w b s l) : Pl w' b s l' := ⟨h.1.at h0.mem, (h.1.froz 1).trans h0.fz, h.2, h0.sz⟩
theorem Mv.trans {w w1 w2 : World} {b : Nat} {s : ByteArray} {l l' : List UInt8} (h : Mv w w1 b s l) (g : Mv w1 w2 b s l') : Mv w w2 b s l' := ⟨h.1.trans g.1, g.2⟩
theorem Mv.bl {w w1 w2 : World} {b : Nat} {s : ByteArray} {l : List UInt8} (h : Mv w w1 b s l) (hb : Below w1.heap.size w1 w2) : Mv w w2 b s l := ⟨h.1.bl hb, h.2⟩
theorem Pl.self {w w' : World} {b : Nat} {s : ByteArray} {l : List UInt8} (h : Pl w b s l) (hb : Below w.heap.size w w') : Mv w w' b s l := ⟨mvd_bl hb h.mem.2, h.suf⟩
theorem tl_suf {l x : List UInt8} (h : l <:+ x) : tlC l <:+ x := (List.drop_suffix _ _).trans h
def chS (s : ByteArray) (l : List UInt8) : ByteArray := (s.extract (s.size - l.length) s.size).extract 0 (firstN (s.extract (s.size - l.length) s.size).data.toList)
theorem rest_data {w : World} {b : Nat} {s : ByteArray} {l : List UInt8} (h : Pl w b s l) : (s.extract (s.size - l.length) s.size).data.toList = l := by
  rw [ext_data, List.take_of_length_le (by rw [show s.data.toList.length = s.size from Array.length_toList]; exact Nat.le_refl _)]; exact h.drop
theorem chS_data {w : World} {b : Nat} {s : ByteArray} {l : List UInt8} (h : Pl w b s l) : (chS s l).data.toList = hdC l := by
  rw [chS, ext_data, rest_data h]; simp [hdC]
theorem chS_size {w : World} {b : Nat} {s : ByteArray} {l : List UInt8} (h : Pl w b s l) : (chS s l).size = firstN l := by
  rw [← hdC_len, ← chS_data h]; exact (Array.length_toList).symm
theorem pos_done {w : World} {b : Nat} {s : ByteArray} {l : List UInt8} (h : Pl w b s l) (r : Bool) (hr : l.isEmpty = r) : Calls Tryz.prog 12 #[.pointer (some ⟨b, 0, none⟩)] w fun e w' => e = .returned (.bool r) ∧ Below w.heap.size w w' := by
  have hle := h.le
  obtain ⟨h1, h2⟩ := h.mem
  have g1 : (((s.size - l.length : Nat) : Int) == (s.size : Int)) = r := by
    rw [← hr, Bool.eq_iff_iff, beq_iff_eq, List.isEmpty_iff, ← List.length_eq_zero_iff]; omega
  obtain ⟨k, hk⟩ : ∃ k, s.size - l.length = k := ⟨_, rfl⟩
  rw [hk] at h2 g1
  have g1' : (k == s.size) = r := by rw [← g1, Bool.eq_iff_iff, beq_iff_eq, beq_iff_eq]; omega
  clear hr hk hle h
  go_enter Tryz.func12, Tryz.ntmps12
  go_wp2
  go_quiet (fail)
  go_wp2
  go_ret
  exact ⟨by first | rfl | (rw [← g1]) | (rw [← g1']), bl_drewN (bl_refl w) _⟩
attribute [local go_sem] later_cell later_frozen
theorem pos_peek {w : World} {b : Nat} {s : ByteArray} {l : List UInt8} (h : Pl w b s l) (c : ByteArray) (hc : chS s l = c) : Calls Tryz.prog 37 #[.pointer (some ⟨b, 0, none⟩)] w fun e w' => e = .returned (.string c) ∧ Below w.heap.size w w' := by
  have hle := h.le
  have hsz := h.sz
  have hbl := World.block_lt_of_cell? _ _ h.mem.1
  unfold chS at hc
  obtain ⟨k, hk⟩ : ∃ k, s.size - l.length = k := ⟨_, rfl⟩
  obtain ⟨h1, h2⟩ := h.mem
  rw [hk] at h2 hc
  have HF := hide (fun W => (firste_any (s.extract k s.size) c W (by simp; omega) hc).mono (fun e w' (h : _ ∧ _) => (show e = .returned (.string c) ∧ Below W.heap.size W w' from ⟨h.1, h.2 ▸ bl_refl W⟩)))
  have q1 : (0 : Int) ≤ (k : Int) := by omega
  have q2 : (k : Int) ≤ (s.size : Int) := by omega
  clear hc hk h hle
  go_enter Tryz.func37, Tryz.ntmps37
  go_wp2
  refine wp_region_later (by kernel_rfl) (by kernel_rfl) ?_
  repeat (go_big_quiet_step (first
    | (go_at_call 64; exact later_call (HF.out _))
    | exact rfl))
  refine wpQuiet_nil ?_
  rintro w9 ⟨⟨_, hb9⟩, rfl⟩
  go_wp2
  go_ret
  exact ⟨rfl, hb9⟩
theorem pos_next {w : World} {b : Nat} {s : ByteArray} {l : List UInt8} (h : Pl w b s l) (c : ByteArray) (hc : chS s l = c) : Calls Tryz.prog 78 #[.pointer (some ⟨b, 0, none⟩)] w fun e w' => e = .returned (.string c) ∧ Mv w w' b s (tlC l) := by
  have HP := hide (pos_peek h c hc)
  have HS := hide h
  have hcz : c.size = firstN l := by rw [← hc]; exact chS_size h
  have hle := h.le
  have hsz := h.sz
  have hfl := firstN_le l
  have hbl := World.block_lt_of_cell? _ _ h.mem.1
  obtain ⟨k, hk⟩ : ∃ k, s.size - l.length = k := ⟨_, rfl⟩
  have HK := hide hk
  have hk2 : s.size - (tlC l).length = k + c.size := by rw [tlC, List.length_drop, hcz]; omega
  have q1 : IntKind.i64.wrap ((k : Int) + (c.size : Int)) = (k : Int) + (c.size : Int) := by rw [IntKind.wrap_i64]; omega
  have HK2 := hide hk2
  clear hc hcz hle hsz hfl hk hk2
  go_enter Tryz.func78, Tryz.ntmps78
  go_wp2_with fail
  refine HP.out.mono ?_
  rintro e w2 ⟨rfl, hb2⟩
  obtain ⟨c1, c2⟩ := spot_bl HS.out.mem hb2
  rw [HK.out] at c2
  have hf2 := (hb2.frozen (p := ⟨b, 1, none⟩) hbl).trans HS.out.fz
  have HB := hide hb2
  clear hb2 h
  go_wp2
  go_ret
  exact ⟨rfl, by rw [Mv, HK2.out]; exact ⟨(mvd_bl HB.out HS.out.mem.2).set (k + c.size), tl_suf HS.out.suf⟩⟩
theorem pos_take {w : World} {b : Nat} {s : ByteArray} {l : List UInt8} (h : Pl w b s l) (c : ByteArray) (r : Bool) (hr : (hdC l == c.data.toList) = r) : Calls Tryz.prog 22 #[.pointer (some ⟨b, 0, none⟩), .string c] w fun e w' => e = .returned (.bool r) ∧ Mv w w' b s (if r = true then tlC l else l) := by
  obtain ⟨x, hx⟩ : ∃ x, chS s l = x := ⟨_, rfl⟩
  have HP := hide (pos_peek h x hx)
  have HS := hide h
  have hxd : x.data.toList = hdC l := by rw [← hx]; exact chS_data h
  have hxz : x.size = firstN l := by rw [← hx]; exact chS_size h
  have hle := h.le
  have hsz := h.sz
  have hfl := firstN_le l
  have hbl := World.block_lt_of_cell? _ _ h.mem.1
  obtain ⟨k, hk⟩ : ∃ k, s.size - l.length = k := ⟨_, rfl⟩
  have HK := hide hk
  have heq : (x.toList == c.toList) = r := by rw [Go.ByteArray.toList_eq, Go.ByteArray.toList_eq, hxd, hr]
  cases r
  · clear hx hxd hxz hle hsz hfl hk hr
    go_enter Tryz.func22, Tryz.ntmps22
    go_wp2_with fail
    refine HP.out.mono ?_
    rintro e w2 ⟨rfl, hb2⟩
    have HB := hide hb2
    clear hb2 h
    go_wp2
    go_ret
    exact ⟨rfl, HS.out.self HB.out⟩
  · have hcx : c.size = firstN l := by
      have h1 : hdC l = c.data.toList := by simpa using hr
      rw [← hdC_len, h1]; exact (Array.length_toList).symm
    have hk2 : s.size - (tlC l).length = k + c.size := by rw [tlC, List.length_drop, hcx]; omega
    have q1 : IntKind.i64.wrap ((k : Int) + (c.size : Int)) = (k : Int) + (c.size : Int) := by rw [IntKind.wrap_i64]; omega
    have HK2 := hide hk2
    clear hx hxd hxz hle hsz hfl hk hr hcx hk2
    go_enter Tryz.func22, Tryz.ntmps22
    go_wp2_with fail
    refine HP.out.mono ?_
    rintro e w2 ⟨rfl, hb2⟩
    obtain ⟨c1, c2⟩ := spot_bl HS.out.mem hb2
    rw [HK.out] at c2
    have hf2 := (hb2.frozen (p := ⟨b, 1, none⟩) hbl).trans HS.out.fz
    have HB := hide hb2
    clear hb2 h
    go_wp2
    go_ret
    exact ⟨rfl, by first | (rw [Mv, if_pos rfl, HK2.out]; exact ⟨(mvd_bl HB.out HS.out.mem.2).set (k + c.size), tl_suf HS.out.suf⟩) | (rw [Mv, HK2.out]; exact ⟨(mvd_bl HB.out HS.out.mem.2).set (k + c.size), tl_suf HS.out.suf⟩)⟩
end
section
open Go.ChangeShapes Go.WideShapes Go.ChangeAt Go.RowKit
attribute [local go_sem ↓] Go.wp_at_zero Go.wp_at_succ
set_option maxRecDepth 100000
set_option linter.unusedVariables false
def uppZ (n : Int) : Bool := decide (65 ≤ n) && decide (n ≤ 90)
theorem upp_m (n : Int) (h0 : 0 ≤ n) (h1 : n < 256) (w : World) : Calls Tryz.prog 93 #[.int .u8 n] w fun e w' => e = .returned (.bool (uppZ n)) ∧ w = w' := by
  unfold uppZ
  rcases hb1 : decide (65 ≤ n) with _ | _ <;> rcases hb2 : decide (n ≤ 90) with _ | _
  all_goals
    go_enter Tryz.func93, Tryz.ntmps93
    go_wp2
    go_ret
    exact ⟨rfl, rfl⟩
def lowZ (n : Int) : Bool := decide (97 ≤ n) && decide (n ≤ 122)
theorem low_m (n : Int) (h0 : 0 ≤ n) (h1 : n < 256) (w : World) : Calls Tryz.prog 116 #[.int .u8 n] w fun e w' => e = .returned (.bool (lowZ n)) ∧ w = w' := by
  unfold lowZ
  rcases hb1 : decide (97 ≤ n) with _ | _ <;> rcases hb2 : decide (n ≤ 122) with _ | _
  all_goals
    go_enter Tryz.func116, Tryz.ntmps116
    go_wp2
    go_ret
    exact ⟨rfl, rfl⟩
def digZ (n : Int) : Bool := decide (48 ≤ n) && decide (n ≤ 57)
theorem dig_m (n : Int) (h0 : 0 ≤ n) (h1 : n < 256) (w : World) : Calls Tryz.prog 114 #[.int .u8 n] w fun e w' => e = .returned (.bool (digZ n)) ∧ w = w' := by
  unfold digZ
  rcases hb1 : decide (48 ≤ n) with _ | _ <;> rcases hb2 : decide (n ≤ 57) with _ | _
  all_goals
    go_enter Tryz.func114, Tryz.ntmps114
    go_wp2
    go_ret
    exact ⟨rfl, rfl⟩
def letZ (n : Int) : Bool := uppZ n || lowZ n
theorem let_m (n : Int) (h0 : 0 ≤ n) (h1 : n < 256) (w : World) : Calls Tryz.prog 113 #[.int .u8 n] w fun e w' => e = .returned (.bool (letZ n)) ∧ w = w' := by
  have HU := hide (fun W => upp_m n h0 h1 W)
  have HL := hide (fun W => low_m n h0 h1 W)
  unfold letZ
  generalize uppZ n = u at *
  generalize lowZ n = l at *
  cases u
  all_goals
    go_enter Tryz.func113, Tryz.ntmps113
    go_wp2_with (first | (go_at_call 93; refine (HU.out _).mono ?_; rintro e w1 ⟨rfl, rfl⟩) | (go_at_call 116; refine (HL.out _).mono ?_; rintro e w1 ⟨rfl, rfl⟩))
    go_ret
    exact ⟨rfl, rfl⟩
def numR : Nat → Nat → Nat → List UInt8 → Nat × Nat × List UInt8
  | 0, n, k, l => (n, k, l)
  | f + 1, n, k, l => match hdC l with
    | [y] => if digZ y.toNat = true then numR f (n * 10 + (y.toNat - 48)) (k + 1) (tlC l) else (n, k, l)
    | _ => (n, k, l)
theorem numR_one {f n k : Nat} {l : List UInt8} {y : UInt8} (h : hdC l = [y]) (hd : digZ y.toNat = true) : numR (f + 1) n k l = numR f (n * 10 + (y.toNat - 48)) (k + 1) (tlC l) := by
  rw [numR, h]; simp [hd]
theorem numR_no {f n k : Nat} {l : List UInt8} {y : UInt8} (h : hdC l = [y]) (hd : digZ y.toNat = false) : numR f n k l = (n, k, l) := by
  cases f with
  | zero => rfl
  | succ f => rw [numR, h]; simp [hd]
theorem numR_ne {f n k : Nat} {l : List UInt8} (h : (hdC l).length ≠ 1) : numR f n k l = (n, k, l) := by
  cases f with
  | zero => rfl
  | succ f =>
    rw [numR]
    split
    · rename_i hy; rw [hy] at h; simp at h
    · rfl
def numOk (n k : Nat) : Bool := decide (1 ≤ k) && (decide (k ≤ 3) && decide (n ≤ 255))
def NmPost (w : World) (b : Nat) (s : ByteArray) (z : Nat × Nat × List UInt8) (e : Ending) (w' : World) : Prop :=
  e = .returned (.tuple #[.int .i64 z.1, .bool (numOk z.1 z.2.1)]) ∧ Mv w w' b s z.2.2
set_option maxHeartbeats 4000000 in
theorem number_any {w : World} {b : Nat} {s : ByteArray} {l : List UInt8} (h : Pl w b s l) (z : Nat × Nat × List UInt8) (hz : numR 4 0 0 l = z) :
    Calls Tryz.prog 95 #[.pointer (some ⟨b, 0, none⟩)] w (NmPost w b s z) := by
  have HS := hide h
  have HZ := hide hz
  obtain ⟨x0, hx0⟩ : ∃ x, chS s l = x := ⟨_, rfl⟩
  have HP := hide (pos_peek h x0 hx0)
  have HX0 := hide hx0
  clear h hz hx0
  unfold NmPost
  go_enter Tryz.func95, Tryz.ntmps95
  go_wp2_with fail
  refine HP.out.mono ?_
  rintro e w1 ⟨rfl, hb1⟩
  have HB1 := hide hb1
  clear hb1
  go_wp2
  go_loopw [4, 5, 6] (fun n d c wr => ∃ (N K : Nat) (l1 : List UInt8) (x : ByteArray), n = .int .i64 N ∧ d = .int .i64 K ∧ c = .string x ∧ Hid (chS s l1 = x) ∧ K ≤ 4 ∧ N < 10 ^ K ∧ Hid (numR (4 - K) N K l1 = z) ∧ Hid (Mv w wr b s l1)) (fun _ d _ _ => 5 - (intOf d).toNat)
  case atStart => exact ⟨0, 0, l, x0, rfl, rfl, rfl, HX0, by omega, by simp, HZ, hide (HS.out.self HB1.out)⟩
  case round =>
    obtain ⟨N, K, l1, x, rfl, rfl, rfl, HX, hK, hN, HN, HM⟩ := hrel
    have hpl := HM.out.pl HS.out
    have hxd : x.data.toList = hdC l1 := by rw [← HX.out]; exact chS_data hpl
    have hxz : x.size = (hdC l1).length := by rw [← hxd]; exact (Array.length_toList).symm
    have HPL := hide hpl
    have hp4 : (10 : Nat) ^ K ≤ 10 ^ 4 := Nat.pow_le_pow_right (by decide) hK
    have hN4 : N < 10000 := by omega
    clear hpl hp4
    by_cases hl1 : (hdC l1).length = 1
    · obtain ⟨y, hy⟩ := List.length_eq_one_iff.1 hl1
      have hx1 : x.size = 1 := by omega
      have hp0 : 0 < x.size := by omega
      have hx0 : (x[0]'hp0).toNat = y.toNat := by
        have : x.data.toList[0]'(by rw [hxd, hl1]; decide) = y := by simp [hxd, hy]
        rw [← this]; rfl
      have HY := hide hy
      obtain ⟨dg, hdg⟩ : ∃ dg, digZ (y.toNat : Int) = dg := ⟨_, rfl⟩
      have hy256 := y.toNat_lt
      have HD := hide (fun W => dig_m (y.toNat : Int) (by omega) (by omega) W)
      rw [hdg] at HD
      have gs : ((x.size : Int) == 1) = true := by rw [hx1]; rfl
      have gs' : (x.size == 1) = true := by rw [hx1]; rfl
      have i0 : (0 : Int) < (x.size : Int) := by omega
      have HDG := hide hdg
      obtain ⟨cn, hcn⟩ : ∃ cn, y.toNat = cn := ⟨_, rfl⟩
      have hdcn : dg = true → 48 ≤ cn ∧ cn ≤ 57 := by
        intro h1; rw [h1] at hdg; unfold digZ at hdg; simp at hdg; omega
      rw [hcn] at hx0 HD hy256
      have hxi : ((x[0]'hp0).toNat : Int) = (cn : Int) := by rw [hx0]
      have HCN := hide hcn
      clear hcn hdg hy hxz hxd hx0 hl1 hx1
      have HEND := hide (fun (hz : (N, K, l1) = z) => (show ∀ b1 b2 b3 : Bool, decide ((1 : Int) ≤ (K : Int)) = b1 → decide ((K : Int) ≤ 3) = b2 → decide ((N : Int) ≤ 255) = b3 → Ending.returned (.tuple #[.int .i64 (N : Int), .bool (b1 && (b2 && b3))]) = Ending.returned (.tuple #[.int .i64 z.1, .bool (numOk z.1 z.2.1)]) ∧ Mv w wr b s z.2.2 from by
        rintro b1 b2 b3 h1 h2 h3
        subst hz
        refine ⟨?_, HM.out⟩
        have e1 : decide (1 ≤ K) = b1 := by rw [← h1]; apply decide_eq_decide.2; omega
        have e2 : decide (K ≤ 3) = b2 := by rw [← h2]; apply decide_eq_decide.2; omega
        have e3 : decide (N ≤ 255) = b3 := by rw [← h3]; apply decide_eq_decide.2; omega
        simp only [numOk, e1, e2, e3]))
      cases dg
      · have hz2 := HN.out
        rw [numR_no HY.out HDG.out] at hz2
        have HE2 := HEND.out hz2
        rcases hb1 : decide ((1 : Int) ≤ (K : Int)) with _ | _ <;> rcases hb2 : decide ((K : Int) ≤ 3) with _ | _ <;> rcases hb3 : decide ((N : Int) ≤ 255) with _ | _
        all_goals
          have HE := hide (HE2 _ _ _ hb1 hb2 hb3)
          clear HE2 HEND hdcn hz2 hN hN4
          have b1' : decide (1 ≤ K) = decide ((1 : Int) ≤ (K : Int)) := by apply decide_eq_decide.2; omega
          have b2' : decide (K ≤ 3) = decide ((K : Int) ≤ 3) := by apply decide_eq_decide.2; omega
          have b3' : decide (N ≤ 255) = decide ((N : Int) ≤ 255) := by apply decide_eq_decide.2; omega
          rw [hb1] at b1'
          rw [hb2] at b2'
          rw [hb3] at b3'
          go_wp2_with (go_at_call 114; refine (HD.out _).mono ?_; rintro e w2 ⟨rfl, rfl⟩)
          go_ret2
          exact HE.out
      · obtain ⟨hc1, hc2⟩ := hdcn rfl
        by_cases hk4 : K < 4
        · have hz2 := HN.out
          rw [show 4 - K = (4 - (K + 1)) + 1 by omega, numR_one HY.out HDG.out, HCN.out] at hz2
          have HZ2 := hide hz2
          have HN10 := hide (show N * 10 + (cn - 48) < 10 ^ (K + 1) by rw [Nat.pow_succ]; omega)
          obtain ⟨x2, hx2⟩ : ∃ x2, chS s (tlC l1) = x2 := ⟨_, rfl⟩
          have HX2 := hide hx2
          have HNX := hide (pos_next HPL.out x HX.out)
          have HPK := hide (fun W (hp : Pl W b s (tlC l1)) => pos_peek hp x2 hx2)
          have g4 : decide ((K : Int) < 4) = true := decide_eq_true (by omega)
          have g4' : decide (K < 4) = true := decide_eq_true hk4
          have e1 : IntKind.i64.wrap ((N : Int) * 10) = (N : Int) * 10 := by rw [IntKind.wrap_i64]; omega
          have e2 : IntKind.u8.wrap ((cn : Int) - 48) = (cn : Int) - 48 := by rw [IntKind.wrap_u8]; omega
          have e3 : IntKind.i64.wrap ((cn : Int) - 48) = (cn : Int) - 48 := by rw [IntKind.wrap_i64]; omega
          have e4 : IntKind.i64.wrap ((N : Int) * 10 + ((cn : Int) - 48)) = (N : Int) * 10 + ((cn : Int) - 48) := by rw [IntKind.wrap_i64]; omega
          have e5 : IntKind.i64.wrap ((K : Int) + 1) = (K : Int) + 1 := by rw [IntKind.wrap_i64]; omega
          have e6 : ((N * 10 + (cn - 48) : Nat) : Int) = (N : Int) * 10 + ((cn : Int) - 48) := by omega
          clear hz2 hx2 HEND hdcn hN hN4
          go_wp2_with (go_at_call 114; refine (HD.out _).mono ?_; rintro e w2 ⟨rfl, rfl⟩)
          refine HNX.out.mono ?_
          rintro e w3 ⟨rfl, hm3⟩
          have HM3 := hide (HM.out.trans hm3)
          clear hm3
          go_wp2_with fail
          refine (HPK.out _ (HM3.out.pl HS.out)).mono ?_
          rintro e w4 ⟨rfl, hb4⟩
          have HM4 := hide (HM3.out.bl hb4)
          clear hb4
          go_wp2
          refine ⟨?_, by first | (simp [intOf]; done) | (simp [intOf]; omega)⟩
          first
            | exact ⟨N * 10 + (cn - 48), K + 1, tlC l1, x2, by rw [e6], by go_num, rfl, HX2, by omega, HN10.out, HZ2, HM4⟩
            | ((repeat apply Exists.intro); exact ⟨⟨N * 10 + (cn - 48), K + 1, tlC l1, x2, by rw [e6], by go_num, rfl, HX2, by omega, HN10.out, HZ2, HM4⟩, rfl⟩)
        · have hz2 := HN.out
          rw [show 4 - K = 0 by omega, numR] at hz2
          have HE2 := HEND.out hz2
          have g4 : decide ((K : Int) < 4) = false := decide_eq_false (by omega)
          have g4' : decide (K < 4) = false := decide_eq_false hk4
          rcases hb1 : decide ((1 : Int) ≤ (K : Int)) with _ | _ <;> rcases hb2 : decide ((K : Int) ≤ 3) with _ | _ <;> rcases hb3 : decide ((N : Int) ≤ 255) with _ | _
          all_goals
            have HE := hide (HE2 _ _ _ hb1 hb2 hb3)
            have b1' : decide (1 ≤ K) = decide ((1 : Int) ≤ (K : Int)) := by apply decide_eq_decide.2; omega
            have b2' : decide (K ≤ 3) = decide ((K : Int) ≤ 3) := by apply decide_eq_decide.2; omega
            have b3' : decide (N ≤ 255) = decide ((N : Int) ≤ 255) := by apply decide_eq_decide.2; omega
            rw [hb1] at b1'
            rw [hb2] at b2'
            rw [hb3] at b3'
            clear HE2 HEND hz2 hN hN4 hdcn hk4
            go_wp2_with (go_at_call 114; refine (HD.out _).mono ?_; rintro e w2 ⟨rfl, rfl⟩)
            go_ret2
            exact HE.out
    · have hz2 := HN.out
      rw [numR_ne hl1] at hz2
      have gs : ((x.size : Int) == 1) = false := by rw [Bool.eq_false_iff]; intro h1; apply hl1; rw [← hxz]; have := beq_iff_eq.1 h1; omega
      have gs' : (x.size == 1) = false := by rw [Bool.eq_false_iff]; intro h1; apply hl1; rw [← hxz]; have := beq_iff_eq.1 h1; omega
      have HEND := hide (fun (hz : (N, K, l1) = z) => (show ∀ b1 b2 b3 : Bool, decide ((1 : Int) ≤ (K : Int)) = b1 → decide ((K : Int) ≤ 3) = b2 → decide ((N : Int) ≤ 255) = b3 → Ending.returned (.tuple #[.int .i64 (N : Int), .bool (b1 && (b2 && b3))]) = Ending.returned (.tuple #[.int .i64 z.1, .bool (numOk z.1 z.2.1)]) ∧ Mv w wr b s z.2.2 from by
        rintro b1 b2 b3 h1 h2 h3
        subst hz
        refine ⟨?_, HM.out⟩
        have e1 : decide (1 ≤ K) = b1 := by rw [← h1]; apply decide_eq_decide.2; omega
        have e2 : decide (K ≤ 3) = b2 := by rw [← h2]; apply decide_eq_decide.2; omega
        have e3 : decide (N ≤ 255) = b3 := by rw [← h3]; apply decide_eq_decide.2; omega
        simp only [numOk, e1, e2, e3]))
      have HE2 := HEND.out hz2
      clear hl1 hxz hxd
      rcases hb1 : decide ((1 : Int) ≤ (K : Int)) with _ | _ <;> rcases hb2 : decide ((K : Int) ≤ 3) with _ | _ <;> rcases hb3 : decide ((N : Int) ≤ 255) with _ | _
      all_goals
        have HE := hide (HE2 _ _ _ hb1 hb2 hb3)
        have b1' : decide (1 ≤ K) = decide ((1 : Int) ≤ (K : Int)) := by apply decide_eq_decide.2; omega
        have b2' : decide (K ≤ 3) = decide ((K : Int) ≤ 3) := by apply decide_eq_decide.2; omega
        have b3' : decide (N ≤ 255) = decide ((N : Int) ≤ 255) := by apply decide_eq_decide.2; omega
        rw [hb1] at b1'
        rw [hb2] at b2'
        rw [hb3] at b3'
        clear HE2 HEND hz2 hN hN4 
        go_wp2
        go_ret2
        exact HE.out
end
section
open Go.ChangeShapes Go.WideShapes Go.ChangeAt Go.RowKit
attribute [local go_sem ↓] Go.wp_at_zero Go.wp_at_succ
set_option maxRecDepth 100000
set_option linter.unusedVariables false
theorem lit_eq (c : ByteArray) (L : Array UInt8) (r : Bool) (h : (c.data.toList == L.toList) = r) : (c.toList == (⟨L⟩ : ByteArray).toList) = r ∧ (c.toList == L.toList) = r := by
  have : (⟨L⟩ : ByteArray).toList = L.toList := Go.ByteArray.toList_eq _
  rw [Go.ByteArray.toList_eq c, this]; exact ⟨h, h⟩
def escNo (c : ByteArray) : Bool := match c.data.toList with | [y] => letZ y.toNat || digZ y.toNat | _ => false
def escP (c : ByteArray) : Option ByteArray :=
  if (c.data.toList == [110]) = true then some ⟨#[10]⟩ else if (c.data.toList == [114]) = true then some ⟨#[13]⟩ else if (c.data.toList == [116]) = true then some ⟨#[9]⟩
  else if (c.data.toList == [102]) = true then some ⟨#[12]⟩ else if (c.data.toList == [118]) = true then some ⟨#[11]⟩ else if (c.data.toList == []) = true then none else if escNo c = true then none else some c
def EsPost (w : World) (z : Option ByteArray) (e : Ending) (w' : World) : Prop := e = .returned (.tuple #[.string (z.getD ⟨#[]⟩), .bool z.isSome]) ∧ w = w'
set_option maxHeartbeats 4000000 in
theorem escaped_any (c : ByteArray) (hs : c.size ≤ 1000000) (z : Option ByteArray) (hz : escP c = z) (w : World) : Calls Tryz.prog 94 #[.string c] w (EsPost w z) := by
  unfold escP at hz
  unfold EsPost
  rcases k0 : (c.data.toList == [110]) with _ | _
  rotate_left
  · rw [k0, if_pos rfl] at hz
    subst hz
    obtain ⟨y0, z0⟩ := lit_eq c #[110] true k0
    clear k0
    go_enter Tryz.func94, Tryz.ntmps94
    go_wp2
    go_ret2
    exact ⟨rfl, rfl⟩
  rw [k0, if_neg (by decide)] at hz
  obtain ⟨y0, z0⟩ := lit_eq c #[110] false k0
  rcases k1 : (c.data.toList == [114]) with _ | _
  rotate_left
  · rw [k1, if_pos rfl] at hz
    subst hz
    obtain ⟨y1, z1⟩ := lit_eq c #[114] true k1
    clear k0 k1
    go_enter Tryz.func94, Tryz.ntmps94
    go_wp2
    go_ret2
    exact ⟨rfl, rfl⟩
  rw [k1, if_neg (by decide)] at hz
  obtain ⟨y1, z1⟩ := lit_eq c #[114] false k1
  rcases k2 : (c.data.toList == [116]) with _ | _
  rotate_left
  · rw [k2, if_pos rfl] at hz
    subst hz
    obtain ⟨y2, z2⟩ := lit_eq c #[116] true k2
    clear k0 k1 k2
    go_enter Tryz.func94, Tryz.ntmps94
    go_wp2
    go_ret2
    exact ⟨rfl, rfl⟩
  rw [k2, if_neg (by decide)] at hz
  obtain ⟨y2, z2⟩ := lit_eq c #[116] false k2
  rcases k3 : (c.data.toList == [102]) with _ | _
  rotate_left
  · rw [k3, if_pos rfl] at hz
    subst hz
    obtain ⟨y3, z3⟩ := lit_eq c #[102] true k3
    clear k0 k1 k2 k3
    go_enter Tryz.func94, Tryz.ntmps94
    go_wp2
    go_ret2
    exact ⟨rfl, rfl⟩
  rw [k3, if_neg (by decide)] at hz
  obtain ⟨y3, z3⟩ := lit_eq c #[102] false k3
  rcases k4 : (c.data.toList == [118]) with _ | _
  rotate_left
  · rw [k4, if_pos rfl] at hz
    subst hz
    obtain ⟨y4, z4⟩ := lit_eq c #[118] true k4
    clear k0 k1 k2 k3 k4
    go_enter Tryz.func94, Tryz.ntmps94
    go_wp2
    go_ret2
    exact ⟨rfl, rfl⟩
  rw [k4, if_neg (by decide)] at hz
  obtain ⟨y4, z4⟩ := lit_eq c #[118] false k4
  rcases k5 : (c.data.toList == []) with _ | _
  rotate_left
  · rw [k5, if_pos rfl] at hz
    subst hz
    obtain ⟨y5, z5⟩ := lit_eq c #[] true k5
    clear k0 k1 k2 k3 k4 k5
    go_enter Tryz.func94, Tryz.ntmps94
    go_wp2
    go_ret2
    exact ⟨rfl, rfl⟩
  rw [k5, if_neg (by decide)] at hz
  obtain ⟨y5, z5⟩ := lit_eq c #[] false k5
  have hc0 : 0 < c.size := by
    rw [← show c.data.toList.length = c.size from Array.length_toList]
    rcases h : c.data.toList with _ | ⟨a, r⟩
    · rw [h] at k5; simp at k5
    · simp
  by_cases h1 : c.size = 1
  · obtain ⟨y, hy⟩ := List.length_eq_one_iff.1 ((show c.data.toList.length = c.size from Array.length_toList).trans h1)
    have hx0 : (c[0]'hc0).toNat = y.toNat := by
      have : c.data.toList[0]'(by rw [hy]; simp) = y := by simp [hy]
      rw [← this]; rfl
    have hno : escNo c = (letZ y.toNat || digZ y.toNat) := by unfold escNo; rw [hy]
    have hy256 := y.toNat_lt
    rw [hno] at hz
    obtain ⟨cn, hcn⟩ : ∃ cn, y.toNat = cn := ⟨_, rfl⟩
    rw [hcn] at hx0 hy256 hz
    have HL := hide (fun W => let_m (cn : Int) (by omega) (by omega) W)
    have HD := hide (fun W => dig_m (cn : Int) (by omega) (by omega) W)
    have hxi : ((c[0]'hc0).toNat : Int) = (cn : Int) := by rw [hx0]
    have gs : ((c.size : Int) == 1) = true := by rw [h1]; rfl
    have gs' : (c.size == 1) = true := by rw [h1]; rfl
    have i0 : (0 : Int) < (c.size : Int) := by omega
    generalize letZ (cn : Int) = u at *
    generalize digZ (cn : Int) = v at *
    clear hno hcn hy k0 k1 k2 k3 k4 k5 hx0 h1
    cases u <;> cases v
    all_goals
      first | rw [if_pos (by decide)] at hz | rw [if_neg (by decide)] at hz
      subst hz
      go_enter Tryz.func94, Tryz.ntmps94
      go_wp2_with (first | (go_at_call 113; refine (HL.out _).mono ?_; rintro e w2 ⟨rfl, rfl⟩) | (go_at_call 114; refine (HD.out _).mono ?_; rintro e w2 ⟨rfl, rfl⟩))
      go_ret2
      exact ⟨rfl, rfl⟩
  · have hno : escNo c = false := by
      unfold escNo
      split
      · rename_i y hy
        exfalso; apply h1
        rw [← show c.data.toList.length = c.size from Array.length_toList, hy]; rfl
      · rfl
    rw [hno, if_neg (by decide)] at hz
    subst hz
    have gs : ((c.size : Int) == 1) = false := by rw [Bool.eq_false_iff]; intro h; have := beq_iff_eq.1 h; omega
    have gs' : (c.size == 1) = false := by rw [Bool.eq_false_iff]; intro h; have := beq_iff_eq.1 h; omega
    clear hno k0 k1 k2 k3 k4 k5 h1
    go_enter Tryz.func94, Tryz.ntmps94
    go_wp2
    go_ret2
    exact ⟨rfl, rfl⟩
def bndP (l : List UInt8) : Option (Nat × Int × List UInt8) :=
  let z := numR 4 0 0 l
  if numOk z.1 z.2.1 = true then
    if (hdC z.2.2 == [44]) = true then
      if (hdC (tlC z.2.2) == [125]) = true then some (z.1, -1, tlC (tlC z.2.2))
      else
        let y := numR 4 0 0 (tlC z.2.2)
        if (numOk y.1 y.2.1 && (hdC y.2.2 == [125] && decide (z.1 ≤ y.1))) = true then some (z.1, (y.1 : Int), tlC y.2.2) else none
    else if (hdC z.2.2 == [125]) = true then some (z.1, (z.1 : Int), tlC z.2.2) else none
  else none
def BdPost (w : World) (b : Nat) (s : ByteArray) (o : Option (Nat × Int × List UInt8)) (e : Ending) (w' : World) : Prop :=
  ∃ (n m : Int) (r : List UInt8), e = .returned (.tuple #[.int .i64 n, .int .i64 m, .bool o.isSome]) ∧ Mv w w' b s r ∧ ∀ x, o = some x → n = x.1 ∧ m = x.2.1 ∧ r = x.2.2
set_option maxHeartbeats 8000000 in
theorem bounds_any {w : World} {b : Nat} {s : ByteArray} {l : List UInt8} (h : Pl w b s l) (o : Option (Nat × Int × List UInt8)) (ho : bndP l = o) :
    Calls Tryz.prog 82 #[.pointer (some ⟨b, 0, none⟩)] w (BdPost w b s o) := by
  have HS := hide h
  obtain ⟨n, k, r, hz⟩ : ∃ n k r, numR 4 0 0 l = (n, k, r) := ⟨_, _, _, rfl⟩
  have hN1 := number_any h _ hz
  unfold NmPost at hN1
  unfold bndP at ho
  simp only [hz] at ho hN1
  have hnn : numOk n k = true → n ≤ 255 := by unfold numOk; simp
  obtain ⟨q1, hq1⟩ : ∃ q, numOk n k = q := ⟨_, rfl⟩
  rw [hq1] at ho hN1 hnn
  have HN1 := hide hN1
  clear h hz hN1 hq1
  cases q1
  · rw [if_neg (by decide)] at ho
    subst ho
    unfold BdPost
    go_enter Tryz.func82, Tryz.ntmps82
    go_wp2_with fail
    refine HN1.out.mono ?_
    rintro e w1 ⟨rfl, hm1⟩
    have M1 := hide hm1
    clear hm1
    go_wp2
    go_ret3
    exact ⟨0, 0, r, rfl, M1.out, fun x hx => by cases hx⟩
  rw [if_pos rfl] at ho
  have hn255 := hnn rfl
  clear hnn
  obtain ⟨q2, hq2⟩ : ∃ q, (hdC r == [44]) = q := ⟨_, rfl⟩
  have HT2 := hide (fun W (hp : Pl W b s r) => pos_take hp ⟨#[44]⟩ q2 hq2)
  rw [hq2] at ho
  have gm1 : ((n : Int) == -1) = false := by rw [Bool.eq_false_iff]; intro h; have := beq_iff_eq.1 h; omega
  clear hq2
  cases q2
  · rw [if_neg (by decide)] at ho
    obtain ⟨q3, hq3⟩ : ∃ q, (hdC r == [125]) = q := ⟨_, rfl⟩
    have HT3 := hide (fun W (hp : Pl W b s r) => pos_take hp ⟨#[125]⟩ q3 hq3)
    rw [hq3] at ho
    clear hq3
    cases q3
    · rw [if_neg (by decide)] at ho
      subst ho
      unfold BdPost
      go_enter Tryz.func82, Tryz.ntmps82
      go_wp2_with fail
      refine HN1.out.mono ?_
      rintro e w1 ⟨rfl, hm1⟩
      have M1 := hide hm1
      clear hm1
      go_wp2_with fail
      refine (HT2.out _ (M1.out.pl HS.out)).mono ?_
      rintro e w2 ⟨rfl, hm2⟩
      have M2 := hide (M1.out.trans hm2)
      clear hm2
      go_wp2_with fail
      refine (HT3.out _ (M2.out.pl HS.out)).mono ?_
      rintro e w3 ⟨rfl, hm3⟩
      have M3 := hide (M2.out.trans hm3)
      clear hm3
      go_wp2
      go_ret3
      exact ⟨_, _, _, rfl, M3.out, fun x hx => by cases hx⟩
    · rw [if_pos rfl] at ho
      subst ho
      unfold BdPost
      have gle : decide ((n : Int) ≤ (n : Int)) = true := decide_eq_true (Int.le_refl _)
      go_enter Tryz.func82, Tryz.ntmps82
      go_wp2_with fail
      refine HN1.out.mono ?_
      rintro e w1 ⟨rfl, hm1⟩
      have M1 := hide hm1
      clear hm1
      go_wp2_with fail
      refine (HT2.out _ (M1.out.pl HS.out)).mono ?_
      rintro e w2 ⟨rfl, hm2⟩
      have M2 := hide (M1.out.trans hm2)
      clear hm2
      go_wp2_with fail
      refine (HT3.out _ (M2.out.pl HS.out)).mono ?_
      rintro e w3 ⟨rfl, hm3⟩
      have M3 := hide (M2.out.trans hm3)
      clear hm3
      go_wp2
      go_ret3
      exact ⟨_, _, _, rfl, M3.out, fun x hx => by cases hx; exact ⟨rfl, rfl, rfl⟩⟩
  rw [if_pos rfl] at ho
  obtain ⟨r1, hr1⟩ : ∃ r1, tlC r = r1 := ⟨_, rfl⟩
  rw [hr1] at ho
  simp only [if_true] at HT2
  rw [hr1] at HT2
  obtain ⟨q3, hq3⟩ : ∃ q, (hdC r1 == [125]) = q := ⟨_, rfl⟩
  have HT3 := hide (fun W (hp : Pl W b s r1) => pos_take hp ⟨#[125]⟩ q3 hq3)
  obtain ⟨c, hc⟩ : ∃ c, chS s r1 = c := ⟨_, rfl⟩
  have HP3 := hide (fun W (hp : Pl W b s r1) => pos_peek hp c hc)
  have HCD := hide (fun W (hp : Pl W b s r1) => lit_eq c #[125] q3 (by rw [← hc, chS_data hp]; exact hq3))
  rw [hq3] at ho
  clear hq3 hc hr1
  cases q3
  · rw [if_neg (by decide)] at ho
    obtain ⟨m, k2, r2, hz⟩ : ∃ n k r, numR 4 0 0 r1 = (n, k, r) := ⟨_, _, _, rfl⟩
    simp only [hz] at ho
    have hN2 := fun W (hp : Pl W b s r1) => number_any hp _ hz
    unfold NmPost at hN2
    simp only at hN2
    have hmm : numOk m k2 = true → m ≤ 255 := by unfold numOk; simp
    obtain ⟨q4, hq4⟩ : ∃ q, numOk m k2 = q := ⟨_, rfl⟩
    rw [hq4] at ho hN2 hmm
    have HN2 := hide hN2
    clear hN2 hq4 hz
    cases q4
    · rw [if_neg (by simp)] at ho
      subst ho
      unfold BdPost
      go_enter Tryz.func82, Tryz.ntmps82
      go_wp2_with fail
      refine HN1.out.mono ?_
      rintro e w1 ⟨rfl, hm1⟩
      have M1 := hide hm1
      clear hm1
      go_wp2_with fail
      refine (HT2.out _ (M1.out.pl HS.out)).mono ?_
      rintro e w2 ⟨rfl, hm2⟩
      have M2 := hide (M1.out.trans hm2)
      clear hm2
      go_wp2_with fail
      refine (HP3.out _ (M2.out.pl HS.out)).mono ?_
      rintro e w3 ⟨rfl, hb3⟩
      obtain ⟨f1, f2⟩ := HCD.out _ (M2.out.pl HS.out)
      have M3 := hide (M2.out.bl hb3)
      clear hb3
      go_wp2_with fail
      refine (HN2.out _ (M3.out.pl HS.out)).mono ?_
      rintro e w4 ⟨rfl, hm4⟩
      have M4 := hide (M3.out.trans hm4)
      clear hm4
      go_wp2
      go_ret3
      exact ⟨_, _, _, rfl, M4.out, fun x hx => by cases hx⟩
    have hm255 := hmm rfl
    clear hmm
    have gm2 : ((m : Int) == -1) = false := by rw [Bool.eq_false_iff]; intro h; have := beq_iff_eq.1 h; omega
    obtain ⟨q5, hq5⟩ : ∃ q, (hdC r2 == [125]) = q := ⟨_, rfl⟩
    have HT5 := hide (fun W (hp : Pl W b s r2) => pos_take hp ⟨#[125]⟩ q5 hq5)
    rw [hq5] at ho
    clear hq5
    cases q5
    · rw [if_neg (by simp)] at ho
      subst ho
      unfold BdPost
      go_enter Tryz.func82, Tryz.ntmps82
      go_wp2_with fail
      refine HN1.out.mono ?_
      rintro e w1 ⟨rfl, hm1⟩
      have M1 := hide hm1
      clear hm1
      go_wp2_with fail
      refine (HT2.out _ (M1.out.pl HS.out)).mono ?_
      rintro e w2 ⟨rfl, hm2⟩
      have M2 := hide (M1.out.trans hm2)
      clear hm2
      go_wp2_with fail
      refine (HP3.out _ (M2.out.pl HS.out)).mono ?_
      rintro e w3 ⟨rfl, hb3⟩
      obtain ⟨f1, f2⟩ := HCD.out _ (M2.out.pl HS.out)
      have M3 := hide (M2.out.bl hb3)
      clear hb3
      go_wp2_with fail
      refine (HN2.out _ (M3.out.pl HS.out)).mono ?_
      rintro e w4 ⟨rfl, hm4⟩
      have M4 := hide (M3.out.trans hm4)
      clear hm4
      go_wp2_with fail
      refine (HT5.out _ (M4.out.pl HS.out)).mono ?_
      rintro e w5 ⟨rfl, hm5⟩
      have M5 := hide (M4.out.trans hm5)
      clear hm5
      go_wp2
      go_ret3
      exact ⟨_, _, _, rfl, M5.out, fun x hx => by cases hx⟩
    by_cases hnm : n ≤ m
    · rw [if_pos (by simp [hnm])] at ho
      subst ho
      unfold BdPost
      have gle : decide ((n : Int) ≤ (m : Int)) = true := decide_eq_true (by omega)
      have gle' : decide (n ≤ m) = true := decide_eq_true hnm
      clear hnm
      go_enter Tryz.func82, Tryz.ntmps82
      go_wp2_with fail
      refine HN1.out.mono ?_
      rintro e w1 ⟨rfl, hm1⟩
      have M1 := hide hm1
      clear hm1
      go_wp2_with fail
      refine (HT2.out _ (M1.out.pl HS.out)).mono ?_
      rintro e w2 ⟨rfl, hm2⟩
      have M2 := hide (M1.out.trans hm2)
      clear hm2
      go_wp2_with fail
      refine (HP3.out _ (M2.out.pl HS.out)).mono ?_
      rintro e w3 ⟨rfl, hb3⟩
      obtain ⟨f1, f2⟩ := HCD.out _ (M2.out.pl HS.out)
      have M3 := hide (M2.out.bl hb3)
      clear hb3
      go_wp2_with fail
      refine (HN2.out _ (M3.out.pl HS.out)).mono ?_
      rintro e w4 ⟨rfl, hm4⟩
      have M4 := hide (M3.out.trans hm4)
      clear hm4
      go_wp2_with fail
      refine (HT5.out _ (M4.out.pl HS.out)).mono ?_
      rintro e w5 ⟨rfl, hm5⟩
      have M5 := hide (M4.out.trans hm5)
      clear hm5
      go_wp2
      go_ret3
      exact ⟨_, _, _, rfl, M5.out, fun x hx => by cases hx; exact ⟨rfl, rfl, rfl⟩⟩
    · rw [if_neg (by simp [hnm])] at ho
      subst ho
      unfold BdPost
      have gle : decide ((n : Int) ≤ (m : Int)) = false := decide_eq_false (by omega)
      have gle' : decide (n ≤ m) = false := decide_eq_false hnm
      clear hnm
      go_enter Tryz.func82, Tryz.ntmps82
      go_wp2_with fail
      refine HN1.out.mono ?_
      rintro e w1 ⟨rfl, hm1⟩
      have M1 := hide hm1
      clear hm1
      go_wp2_with fail
      refine (HT2.out _ (M1.out.pl HS.out)).mono ?_
      rintro e w2 ⟨rfl, hm2⟩
      have M2 := hide (M1.out.trans hm2)
      clear hm2
      go_wp2_with fail
      refine (HP3.out _ (M2.out.pl HS.out)).mono ?_
      rintro e w3 ⟨rfl, hb3⟩
      obtain ⟨f1, f2⟩ := HCD.out _ (M2.out.pl HS.out)
      have M3 := hide (M2.out.bl hb3)
      clear hb3
      go_wp2_with fail
      refine (HN2.out _ (M3.out.pl HS.out)).mono ?_
      rintro e w4 ⟨rfl, hm4⟩
      have M4 := hide (M3.out.trans hm4)
      clear hm4
      go_wp2_with fail
      refine (HT5.out _ (M4.out.pl HS.out)).mono ?_
      rintro e w5 ⟨rfl, hm5⟩
      have M5 := hide (M4.out.trans hm5)
      clear hm5
      go_wp2
      go_ret3
      exact ⟨_, _, _, rfl, M5.out, fun x hx => by cases hx⟩
  · rw [if_pos rfl] at ho
    subst ho
    unfold BdPost
    have gm3 : ((-1 : Int) == -1) = true := rfl
    go_enter Tryz.func82, Tryz.ntmps82
    go_wp2_with fail
    refine HN1.out.mono ?_
    rintro e w1 ⟨rfl, hm1⟩
    have M1 := hide hm1
    clear hm1
    go_wp2_with fail
    refine (HT2.out _ (M1.out.pl HS.out)).mono ?_
    rintro e w2 ⟨rfl, hm2⟩
    have M2 := hide (M1.out.trans hm2)
    clear hm2
    go_wp2_with fail
    refine (HP3.out _ (M2.out.pl HS.out)).mono ?_
    rintro e w3 ⟨rfl, hb3⟩
    obtain ⟨f1, f2⟩ := HCD.out _ (M2.out.pl HS.out)
    have M3 := hide (M2.out.bl hb3)
    clear hb3
    go_wp2_with fail
    refine (HT3.out _ (M3.out.pl HS.out)).mono ?_
    rintro e w4 ⟨rfl, hm4⟩
    have M4 := hide (M3.out.trans hm4)
    clear hm4
    go_wp2
    go_ret3
    exact ⟨_, _, _, rfl, M4.out, fun x hx => by cases hx; exact ⟨rfl, rfl, rfl⟩⟩
end
section
open Go.ChangeShapes Go.WideShapes Go.ChangeAt Go.RowKit
attribute [local go_sem ↓] Go.wp_at_zero Go.wp_at_succ
set_option maxRecDepth 100000
set_option linter.unusedVariables false
def bsC (L : List UInt8) : ByteArray := ⟨L.toArray⟩
theorem bsC_data (L : List UInt8) : (bsC L).data.toList = L := by simp [bsC]
theorem chS_eq {w : World} {b : Nat} {s : ByteArray} {l : List UInt8} (h : Pl w b s l) : chS s l = bsC (hdC l) := by
  apply ByteArray.ext; apply Array.ext'
  rw [chS_data h, bsC_data]
def rngP (l : List UInt8) : Bool := (hdC l == [45]) && (!(tlC l).isEmpty && !(hdC (tlC l) == [93]))
theorem mv_below {w w1 w2 : World} {g : Nat} {s : ByteArray} {l : List UInt8} (hb : Below w.heap.size w w1) (h : Mv w1 w2 g s l) (hg : w.heap.size ≤ g) : Below w.heap.size w w2 :=
  bl_grown hb h.1.grown (fun k hk => by injection hk with hk; omega)
theorem pl_copy {w : World} {b : Nat} {s : ByteArray} {l : List UInt8} (h : Pl w b s l) : Pl (w.alloc (.cells #[.string s, .int .i64 ((s.size - l.length : Nat) : Int)] 42)) w.heap.size s l := by
  refine ⟨⟨?_, ?_⟩, ?_, h.suf, h.sz⟩ <;> go_simp
set_option maxHeartbeats 4000000 in
theorem begins_any {w : World} {b : Nat} {s : ByteArray} {l : List UInt8} (h : Pl w b s l) (q : Bool) (hq : rngP l = q) :
    Calls Tryz.prog 108 #[.pointer (some ⟨b, 0, none⟩)] w fun e w' => e = .returned (.bool q) ∧ Below w.heap.size w w' := by
  have HC := hide (pl_copy h)
  obtain ⟨h1, h2⟩ := h.mem
  obtain ⟨q1, hq1⟩ : ∃ q, (hdC l == [45]) = q := ⟨_, rfl⟩
  have HT1 := hide (fun W (hp : Pl W w.heap.size s l) => pos_take hp ⟨#[45]⟩ q1 hq1)
  unfold rngP at hq
  rw [hq1] at hq
  obtain ⟨k, hk⟩ : ∃ k, s.size - l.length = k := ⟨_, rfl⟩
  rw [hk] at h2 HC
  have HB := hide (bl_alloc (bl_refl w) (.cells #[.string s, .int .i64 (k : Int)] 42))
  clear hq1 hk h
  cases q1
  · subst hq
    go_enter Tryz.func108, Tryz.ntmps108
    go_wp2_with fail
    refine (HT1.out _ HC.out).mono ?_
    rintro e w2 ⟨rfl, hm2⟩
    have B2 := hide (mv_below HB.out hm2 (Nat.le_refl _))
    clear hm2
    go_wp2
    go_ret
    exact ⟨rfl, B2.out⟩
  · simp only [if_true] at HT1
    obtain ⟨r, hr⟩ : ∃ r, tlC l = r := ⟨_, rfl⟩
    rw [hr] at HT1 hq
    obtain ⟨q2, hq2⟩ : ∃ q, r.isEmpty = q := ⟨_, rfl⟩
    have HD2 := hide (fun W (hp : Pl W w.heap.size s r) => pos_done hp q2 hq2)
    rw [hq2] at hq
    clear hq2 hr
    cases q2
    · obtain ⟨c, hc⟩ : ∃ c, chS s r = c := ⟨_, rfl⟩
      have HP3 := hide (fun W (hp : Pl W w.heap.size s r) => pos_peek hp c hc)
      obtain ⟨q3, hq3⟩ : ∃ q, (hdC r == [93]) = q := ⟨_, rfl⟩
      have HCD := hide (fun W (hp : Pl W w.heap.size s r) => lit_eq c #[93] q3 (by rw [← hc, chS_data hp]; exact hq3))
      rw [hq3] at hq
      clear hq3 hc
      cases q3
      all_goals
        subst hq
        go_enter Tryz.func108, Tryz.ntmps108
        go_wp2_with fail
        refine (HT1.out _ HC.out).mono ?_
        rintro e w2 ⟨rfl, hm2⟩
        have B2 := hide (mv_below HB.out hm2 (Nat.le_refl _))
        have P2 := hide (hm2.pl HC.out)
        obtain ⟨f1, f2⟩ := HCD.out _ (hm2.pl HC.out)
        clear hm2
        go_wp2_with fail
        refine (HD2.out _ P2.out).mono ?_
        rintro e w3 ⟨rfl, hb3⟩
        have P3 := hide (P2.out.bl hb3)
        have B3 := hide (bl_trans B2.out hb3)
        clear hb3
        go_wp2_with fail
        refine (HP3.out _ P3.out).mono ?_
        rintro e w4 ⟨rfl, hb4⟩
        have B4 := hide (bl_trans B3.out hb4)
        clear hb4
        go_wp2
        go_ret
        exact ⟨rfl, B4.out⟩
    · subst hq
      go_enter Tryz.func108, Tryz.ntmps108
      go_wp2_with fail
      refine (HT1.out _ HC.out).mono ?_
      rintro e w2 ⟨rfl, hm2⟩
      have B2 := hide (mv_below HB.out hm2 (Nat.le_refl _))
      have P2 := hide (hm2.pl HC.out)
      clear hm2
      go_wp2_with fail
      refine (HD2.out _ P2.out).mono ?_
      rintro e w3 ⟨rfl, hb3⟩
      have B3 := hide (bl_trans B2.out hb3)
      clear hb3
      go_wp2
      go_ret
      exact ⟨rfl, B3.out⟩
end
section
open Go.ChangeShapes Go.WideShapes Go.ChangeAt Go.RowKit
open SetM
attribute [local go_sem ↓] Go.wp_at_zero Go.wp_at_succ
attribute [local go_sem] later_cell later_frozen lt_bl le_bl
set_option maxRecDepth 100000
set_option linter.unusedVariables false
theorem frv0 (n : Nat) : FrV n (.slice none 0 0) := fun x len c e => by cases e
def NmfPost (L : List Rw) (b : Bool) (w : World) (e : Ending) (w' : World) : Prop := ∃ v, e = .returned (.tuple #[v, .bool b]) ∧ Below w.heap.size w w' ∧ RwAt w' v L ∧ FrV w.heap.size v
theorem namf_alloc (L : List Rw) (n : Nat) (b : Bool) (w : World) (hl : L.length = n) (hn : n ≤ 1000) : NmfPost L b w (.returned (.tuple #[.slice (some ⟨w.heap.size, 0, none⟩) n n, .bool b])) (w.alloc (.cells (flatR L).toArray 94)) := by
  subst hl; exact ⟨_, rfl, bl_alloc (bl_refl w) _, alloc_rwat w L hn, fun x len c h => by injection h with h; injection h with h; subst h; exact Nat.le_refl _⟩
set_option maxHeartbeats 2000000 in
theorem namf_any (c : Int) (w : World) : Calls Tryz.prog 92 #[.int .u8 c] w (NmfPost (namR c) (namB c) w) := by
  by_cases h0 : c = 100
  · subst h0
    have e1 : namR 100 = rD := rfl
    have e2 : namB 100 = true := rfl
    rw [e1, e2]
    have H := hide (namf_alloc rD 1 true w rfl (by omega))
    clear e1 e2 
    go_enter Tryz.func92, Tryz.ntmps92
    go_wp2
    go_ret2
    exact H.out
  by_cases h1 : c = 119
  · subst h1
    have e1 : namR 119 = rW := rfl
    have e2 : namB 119 = true := rfl
    rw [e1, e2]
    have H := hide (namf_alloc rW 4 true w rfl (by omega))
    clear e1 e2 h0
    go_enter Tryz.func92, Tryz.ntmps92
    go_wp2
    go_ret2
    exact H.out
  by_cases h2 : c = 115
  · subst h2
    have e1 : namR 115 = rS := rfl
    have e2 : namB 115 = true := rfl
    rw [e1, e2]
    have H := hide (namf_alloc rS 2 true w rfl (by omega))
    clear e1 e2 h0 h1
    go_enter Tryz.func92, Tryz.ntmps92
    go_wp2
    go_ret2
    exact H.out
  have e1 : namR c = [] := by unfold namR; rw [if_neg h0, if_neg h1, if_neg h2]
  have e2 : namB c = false := by unfold namB; simp [h0, h1, h2]
  rw [e1, e2]
  have g1 : (c == 100) = false := by simp [h0]
  have g2 : (c == 119) = false := by simp [h1]
  have g3 : (c == 115) = false := by simp [h2]
  clear e1 e2 h0 h1 h2
  go_enter Tryz.func92, Tryz.ntmps92
  go_wp2
  go_ret2
  exact ⟨_, rfl, bl_refl w, .inl ⟨rfl, rfl⟩, fun x len c h => by cases h⟩
def itemP (l : List UInt8) : Option (List Rw × ByteArray × List UInt8) :=
  if (hdC l == [92]) = true then
    if (hdC (tlC l) == [100]) = true then some (rD, ⟨#[]⟩, tlC (tlC l))
    else if (hdC (tlC l) == [119]) = true then some (rW, ⟨#[]⟩, tlC (tlC l))
    else if (hdC (tlC l) == [115]) = true then some (rS, ⟨#[]⟩, tlC (tlC l))
    else (escP (bsC (hdC (tlC l)))).map (fun d => ([], d, tlC (tlC l)))
  else if (hdC l == []) = true then none else some ([], bsC (hdC l), tlC l)
def ItPost (w : World) (b : Nat) (s : ByteArray) (o : Option (List Rw × ByteArray × List UInt8)) (e : Ending) (w' : World) : Prop :=
  ∃ (v : Value) (c : ByteArray) (r : List UInt8), e = .returned (.tuple #[v, .string c, .bool o.isSome]) ∧ Mv w w' b s r ∧ FrV w.heap.size v ∧ ∀ x, o = some x → RwAt w' v x.1 ∧ c = x.2.1 ∧ r = x.2.2
theorem bsC_size (L : List UInt8) : (bsC L).size = L.length := by
  rw [← show (bsC L).data.toList.length = (bsC L).size from Array.length_toList, bsC_data]
theorem bsC_0 {L : List UInt8} {y : UInt8} (h : L = [y]) (hp : 0 < (bsC L).size) : (((bsC L)[0]'hp).toNat : Int) = (y.toNat : Int) := by subst h; rfl
theorem Mv.fr {w w' : World} {b : Nat} {s : ByteArray} {l : List UInt8} (h : Mv w w' b s l) : w.heap.size ≤ w'.heap.size := h.1.grown.size
set_option maxHeartbeats 8000000 in
theorem item_any {w : World} {b : Nat} {s : ByteArray} {l : List UInt8} (h : Pl w b s l) (o : Option (List Rw × ByteArray × List UInt8)) (ho : itemP l = o) :
    Calls Tryz.prog 107 #[.pointer (some ⟨b, 0, none⟩)] w (ItPost w b s o) := by
  have HS := hide h
  unfold itemP at ho
  unfold ItPost
  obtain ⟨L, hL⟩ : ∃ L, hdC l = L := ⟨_, rfl⟩
  have HN := hide (pos_next h (bsC L) (by rw [← hL]; exact chS_eq h))
  obtain ⟨r, hr⟩ : ∃ r, tlC l = r := ⟨_, rfl⟩
  rw [hL, hr] at ho
  rw [hr] at HN
  have HR := hide hr
  clear h hL hr
  obtain ⟨q1, hq1⟩ : ∃ q, (L == [92]) = q := ⟨_, rfl⟩
  obtain ⟨y1, z1⟩ := lit_eq (bsC L) #[92] q1 (by rw [bsC_data]; exact hq1)
  rw [hq1] at ho
  clear hq1
  cases q1
  · rw [if_neg (by decide)] at ho
    obtain ⟨q2, hq2⟩ : ∃ q, (L == []) = q := ⟨_, rfl⟩
    obtain ⟨y2, z2⟩ := lit_eq (bsC L) #[] q2 (by rw [bsC_data]; exact hq2)
    have x2 : (bsC L).toList.isEmpty = q2 := by rw [← z2, Bool.eq_iff_iff]; simp
    rw [hq2] at ho
    clear hq2
    obtain ⟨C, hC⟩ : ∃ C, bsC L = C := ⟨_, rfl⟩
    rw [hC] at y1 z1 y2 z2 x2 HN ho
    clear hC
    cases q2
    · rw [if_neg (by decide)] at ho
      subst ho
      go_enter Tryz.func107, Tryz.ntmps107
      go_wp2_with fail
      refine HN.out.mono ?_
      rintro e w1 ⟨rfl, hm1⟩
      have M1 := hide hm1
      clear hm1
      go_wp2
      go_ret3
      exact ⟨.slice none 0 0, C, r, rfl, M1.out, frv0 _, fun x hx => by cases hx; exact ⟨.inl ⟨rfl, rfl⟩, rfl, rfl⟩⟩
    · rw [if_pos rfl] at ho
      subst ho
      go_enter Tryz.func107, Tryz.ntmps107
      go_wp2_with fail
      refine HN.out.mono ?_
      rintro e w1 ⟨rfl, hm1⟩
      have M1 := hide hm1
      clear hm1
      go_wp2
      go_ret3
      exact ⟨.slice none 0 0, C, r, rfl, M1.out, frv0 _, fun x hx => by cases hx⟩
  rw [if_pos rfl] at ho
  obtain ⟨C, hC⟩ : ∃ C, bsC L = C := ⟨_, rfl⟩
  rw [hC] at y1 z1 HN
  clear hC
  obtain ⟨L2, hL2⟩ : ∃ L, hdC r = L := ⟨_, rfl⟩
  have HN2 := hide (fun W (hp : Pl W b s r) => pos_next hp (bsC L2) (by rw [← hL2]; exact chS_eq hp))
  obtain ⟨r2, hr2⟩ : ∃ r2, tlC r = r2 := ⟨_, rfl⟩
  have HZ2 := hide (show (bsC L2).size ≤ 1000000 by
    have h1 := (HS.out).le
    have h2 := (HS.out).sz
    rw [bsC_size, ← hL2, hdC_len]
    have h3 := firstN_le r
    have h4 := tl_le l
    rw [HR.out] at h4
    omega)
  rw [hL2, hr2] at ho
  rw [hr2] at HN2
  clear hL2 hr2
  rcases k0 : (L2 == [100]) with _ | _
  rotate_left
  · rw [k0, if_pos rfl] at ho
    subst ho
    obtain ⟨u0, v0⟩ := lit_eq (bsC L2) #[100] true (by rw [bsC_data]; exact k0)
    obtain ⟨D, hD⟩ : ∃ D, bsC L2 = D := ⟨_, rfl⟩
    have hp : 0 < D.size := by rw [← hD, bsC_size, show L2 = [100] by simpa using k0]; decide
    have hi : ((D[0]'hp).toNat : Int) = 100 := by
      subst hD
      exact bsC_0 (show L2 = [100] by simpa using k0) hp
    have i0 : (0 : Int) < (D.size : Int) := by omega
    have e1 : namR 100 = rD := rfl
    have e2 : namB 100 = true := rfl
    have hnm := fun W => namf_any 100 W
    rw [e1, e2] at hnm
    unfold NmfPost at hnm
    have HNM := hide hnm
    clear hnm e1 e2
    rw [hD] at u0 v0 HN2
    clear hD k0
    go_enter Tryz.func107, Tryz.ntmps107
    go_wp2_with fail
    refine HN.out.mono ?_
    rintro e w1 ⟨rfl, hm1⟩
    have M1 := hide hm1
    clear hm1
    go_wp2_with fail
    refine (HN2.out _ (M1.out.pl HS.out)).mono ?_
    rintro e w2 ⟨rfl, hm2⟩
    have M2 := hide (M1.out.trans hm2)
    clear hm2
    go_wp2_with fail
    refine (HNM.out _).mono ?_
    rintro e w3 ⟨v, rfl, hb3, hrw, hfv⟩
    have M3 := hide (M2.out.bl hb3)
    have HF := hide (FrV.mono hfv M2.out.fr)
    have HRW := hide hrw
    clear hb3 hrw hfv
    go_wp2
    go_ret3
    exact ⟨v, ⟨#[]⟩, r2, rfl, M3.out, HF.out, fun x hx => by cases hx; exact ⟨HRW.out, rfl, rfl⟩⟩
  rw [k0, if_neg (by decide)] at ho
  obtain ⟨u0, v0⟩ := lit_eq (bsC L2) #[100] false (by rw [bsC_data]; exact k0)
  rcases k1 : (L2 == [119]) with _ | _
  rotate_left
  · rw [k1, if_pos rfl] at ho
    subst ho
    obtain ⟨u1, v1⟩ := lit_eq (bsC L2) #[119] true (by rw [bsC_data]; exact k1)
    obtain ⟨D, hD⟩ : ∃ D, bsC L2 = D := ⟨_, rfl⟩
    have hp : 0 < D.size := by rw [← hD, bsC_size, show L2 = [119] by simpa using k1]; decide
    have hi : ((D[0]'hp).toNat : Int) = 119 := by
      subst hD
      exact bsC_0 (show L2 = [119] by simpa using k1) hp
    have i0 : (0 : Int) < (D.size : Int) := by omega
    have e1 : namR 119 = rW := rfl
    have e2 : namB 119 = true := rfl
    have hnm := fun W => namf_any 119 W
    rw [e1, e2] at hnm
    unfold NmfPost at hnm
    have HNM := hide hnm
    clear hnm e1 e2
    rw [hD] at u0 v0 u1 v1 HN2
    clear hD k0 k1
    go_enter Tryz.func107, Tryz.ntmps107
    go_wp2_with fail
    refine HN.out.mono ?_
    rintro e w1 ⟨rfl, hm1⟩
    have M1 := hide hm1
    clear hm1
    go_wp2_with fail
    refine (HN2.out _ (M1.out.pl HS.out)).mono ?_
    rintro e w2 ⟨rfl, hm2⟩
    have M2 := hide (M1.out.trans hm2)
    clear hm2
    go_wp2_with fail
    refine (HNM.out _).mono ?_
    rintro e w3 ⟨v, rfl, hb3, hrw, hfv⟩
    have M3 := hide (M2.out.bl hb3)
    have HF := hide (FrV.mono hfv M2.out.fr)
    have HRW := hide hrw
    clear hb3 hrw hfv
    go_wp2
    go_ret3
    exact ⟨v, ⟨#[]⟩, r2, rfl, M3.out, HF.out, fun x hx => by cases hx; exact ⟨HRW.out, rfl, rfl⟩⟩
  rw [k1, if_neg (by decide)] at ho
  obtain ⟨u1, v1⟩ := lit_eq (bsC L2) #[119] false (by rw [bsC_data]; exact k1)
  rcases k2 : (L2 == [115]) with _ | _
  rotate_left
  · rw [k2, if_pos rfl] at ho
    subst ho
    obtain ⟨u2, v2⟩ := lit_eq (bsC L2) #[115] true (by rw [bsC_data]; exact k2)
    obtain ⟨D, hD⟩ : ∃ D, bsC L2 = D := ⟨_, rfl⟩
    have hp : 0 < D.size := by rw [← hD, bsC_size, show L2 = [115] by simpa using k2]; decide
    have hi : ((D[0]'hp).toNat : Int) = 115 := by
      subst hD
      exact bsC_0 (show L2 = [115] by simpa using k2) hp
    have i0 : (0 : Int) < (D.size : Int) := by omega
    have e1 : namR 115 = rS := rfl
    have e2 : namB 115 = true := rfl
    have hnm := fun W => namf_any 115 W
    rw [e1, e2] at hnm
    unfold NmfPost at hnm
    have HNM := hide hnm
    clear hnm e1 e2
    rw [hD] at u0 v0 u1 v1 u2 v2 HN2
    clear hD k0 k1 k2
    go_enter Tryz.func107, Tryz.ntmps107
    go_wp2_with fail
    refine HN.out.mono ?_
    rintro e w1 ⟨rfl, hm1⟩
    have M1 := hide hm1
    clear hm1
    go_wp2_with fail
    refine (HN2.out _ (M1.out.pl HS.out)).mono ?_
    rintro e w2 ⟨rfl, hm2⟩
    have M2 := hide (M1.out.trans hm2)
    clear hm2
    go_wp2_with fail
    refine (HNM.out _).mono ?_
    rintro e w3 ⟨v, rfl, hb3, hrw, hfv⟩
    have M3 := hide (M2.out.bl hb3)
    have HF := hide (FrV.mono hfv M2.out.fr)
    have HRW := hide hrw
    clear hb3 hrw hfv
    go_wp2
    go_ret3
    exact ⟨v, ⟨#[]⟩, r2, rfl, M3.out, HF.out, fun x hx => by cases hx; exact ⟨HRW.out, rfl, rfl⟩⟩
  rw [k2, if_neg (by decide)] at ho
  obtain ⟨u2, v2⟩ := lit_eq (bsC L2) #[115] false (by rw [bsC_data]; exact k2)
  obtain ⟨z, hz⟩ : ∃ z, escP (bsC L2) = z := ⟨_, rfl⟩
  rw [hz] at ho
  have hsz : (bsC L2).size ≤ 1000000 := HZ2.out
  · have HE := hide (fun W => escaped_any (bsC L2) hsz z hz W)
    unfold EsPost at HE
    obtain ⟨D, hD⟩ : ∃ D, bsC L2 = D := ⟨_, rfl⟩
    rw [hD] at u0 v0 u1 v1 u2 v2 HN2 HE
    clear hD k0 k1 k2 hsz hz
    rcases z with _ | z
    · simp only [Option.map] at ho
      subst ho
      simp only [Option.getD, Option.isSome] at HE
      go_enter Tryz.func107, Tryz.ntmps107
      go_wp2_with fail
      refine HN.out.mono ?_
      rintro e w1 ⟨rfl, hm1⟩
      have M1 := hide hm1
      clear hm1
      go_wp2_with fail
      refine (HN2.out _ (M1.out.pl HS.out)).mono ?_
      rintro e w2 ⟨rfl, hm2⟩
      have M2 := hide (M1.out.trans hm2)
      clear hm2
      go_wp2_with fail
      refine (HE.out _).mono ?_
      rintro e w3 ⟨rfl, rfl⟩
      go_wp2
      go_ret3
      exact ⟨.slice none 0 0, ⟨#[]⟩, r2, rfl, M2.out, frv0 _, fun x hx => by cases hx⟩
    · simp only [Option.map] at ho
      subst ho
      simp only [Option.getD, Option.isSome] at HE
      go_enter Tryz.func107, Tryz.ntmps107
      go_wp2_with fail
      refine HN.out.mono ?_
      rintro e w1 ⟨rfl, hm1⟩
      have M1 := hide hm1
      clear hm1
      go_wp2_with fail
      refine (HN2.out _ (M1.out.pl HS.out)).mono ?_
      rintro e w2 ⟨rfl, hm2⟩
      have M2 := hide (M1.out.trans hm2)
      clear hm2
      go_wp2_with fail
      refine (HE.out _).mono ?_
      rintro e w3 ⟨rfl, rfl⟩
      go_wp2
      go_ret3
      exact ⟨.slice none 0 0, z, r2, rfl, M2.out, frv0 _, fun x hx => by cases hx; exact ⟨.inl ⟨rfl, rfl⟩, rfl, rfl⟩⟩
end
section
open Go.ChangeShapes Go.WideShapes Go.ChangeAt Go.RowKit
open SetM
attribute [local go_sem ↓] Go.wp_at_zero Go.wp_at_succ
attribute [local go_sem] later_cell later_frozen lt_bl le_bl
set_option maxRecDepth 100000
set_option linter.unusedVariables false
def rowsP (l : List UInt8) : Option (List Rw × List UInt8) :=
  match itemP l with
  | none => none
  | some (L, c, r) =>
    if c.size = 0 then some (L, r)
    else if rngP r = true then
      match itemP (tlC r) with
      | none => none
      | some (_, d, r2) => if bl d c = true then none else some ([(c, d)], r2)
    else some ([(c, c)], r)
def RwsPost (w : World) (b : Nat) (s : ByteArray) (o : Option (List Rw × List UInt8)) (e : Ending) (w' : World) : Prop :=
  ∃ (v : Value) (r : List UInt8), e = .returned (.tuple #[v, .bool o.isSome]) ∧ Mv w w' b s r ∧ FrV w.heap.size v ∧ ∀ x, o = some x → RwAt w' v x.1 ∧ r = x.2
theorem row1_fr {w W : World} (h : w.heap.size ≤ W.heap.size) (n c : Nat) : FrV w.heap.size (.slice (some ⟨W.heap.size, 0, none⟩) n c) := fun x len c e => by
  injection e with e; injection e with e; subst e; exact h
set_option maxHeartbeats 8000000 in
theorem rows_par {w : World} {b : Nat} {s : ByteArray} {l : List UInt8} (h : Pl w b s l) (o : Option (List Rw × List UInt8)) (ho : rowsP l = o) :
    Calls Tryz.prog 90 #[.pointer (some ⟨b, 0, none⟩)] w (RwsPost w b s o) := by
  have HS := hide h
  unfold rowsP at ho
  unfold RwsPost
  obtain ⟨o1, ho1⟩ : ∃ o, itemP l = o := ⟨_, rfl⟩
  have hI := item_any h o1 ho1
  unfold ItPost at hI
  rw [ho1] at ho
  clear h ho1
  rcases o1 with _ | ⟨L, c, r⟩
  · have HI := hide hI
    clear hI
    simp only [Option.isSome] at HI
    subst ho
    go_enter Tryz.func90, Tryz.ntmps90
    go_wp2_with fail
    refine HI.out.mono ?_
    rintro e w1 ⟨v, c, r, rfl, hm1, hfv, _⟩
    have M1 := hide hm1
    have HF := hide hfv
    clear hm1 hfv
    go_wp2
    go_ret2
    exact ⟨v, r, rfl, M1.out, HF.out, fun x hx => by cases hx⟩
  simp only [Option.isSome] at hI
  simp only at ho
  have HI := hide hI
  clear hI
  by_cases hc0 : c.size = 0
  · rw [if_pos hc0] at ho
    subst ho
    have k0 : (c.data.toList == []) = true := by
      rw [beq_iff_eq]; apply List.eq_nil_of_length_eq_zero; rw [← hc0]; exact Array.length_toList
    obtain ⟨y0, z0⟩ := lit_eq c #[] true k0
    have x0 : c.toList.isEmpty = true := e_bytes c hc0
    clear k0 hc0
    go_enter Tryz.func90, Tryz.ntmps90
    go_wp2_with fail
    refine HI.out.mono ?_
    rintro e w1 ⟨v, c, r, rfl, hm1, hfv, hx⟩
    obtain ⟨hrw, rfl, rfl⟩ := hx _ rfl
    clear hx
    simp only at hrw
    have M1 := hide hm1
    have HF := hide hfv
    have HRW := hide hrw
    clear hm1 hfv hrw
    go_wp2
    go_ret2
    exact ⟨v, r, rfl, M1.out, HF.out, fun x hx => by cases hx; exact ⟨HRW.out, rfl⟩⟩
  rw [if_neg hc0] at ho
  have k0 : (c.data.toList == []) = false := by
    rw [Bool.eq_false_iff]; intro h1; apply hc0; rw [← show c.data.toList.length = c.size from Array.length_toList, beq_iff_eq.1 h1]; rfl
  obtain ⟨y0, z0⟩ := lit_eq c #[] false k0
  have x0 : c.toList.isEmpty = false := ne_bytes c (by omega)
  clear k0 hc0
  obtain ⟨q, hq⟩ : ∃ q, rngP r = q := ⟨_, rfl⟩
  have HB := hide (fun W (hp : Pl W b s r) => begins_any hp q hq)
  rw [hq] at ho
  clear hq
  have HFIN := hide (fun (c d : ByteArray) (W : World) (r : List UInt8) (hm : Mv w W b s r) => (show Mv w (W.alloc (.cells #[.string c, .string d] 94)) b s r ∧ FrV w.heap.size (.slice (some ⟨W.heap.size, 0, none⟩) 1 1) ∧ RwAt (W.alloc (.cells #[.string c, .string d] 94)) (.slice (some ⟨W.heap.size, 0, none⟩) 1 1) [(c, d)] from
    ⟨hm.bl (bl_alloc (bl_refl W) _), row1_fr hm.fr _ _, alloc_rwat W [(c, d)] (by simp)⟩))
  cases q
  · rw [if_neg (by decide)] at ho
    subst ho
    have b1 := bl_irr c
    go_enter Tryz.func90, Tryz.ntmps90
    go_wp2_with fail
    refine HI.out.mono ?_
    rintro e w1 ⟨v, c, r, rfl, hm1, hfv, hx⟩
    obtain ⟨hrw, rfl, rfl⟩ := hx _ rfl
    clear hx
    simp only at hrw
    have M1 := hide hm1
    have HF := hide hfv
    have HRW := hide hrw
    clear hm1 hfv hrw
    go_wp2_with fail
    refine (HB.out _ (M1.out.pl HS.out)).mono ?_
    rintro e w2 ⟨rfl, hb2⟩
    have M2 := hide (M1.out.bl hb2)
    clear hb2
    go_wp2
    go_ret2
    exact ⟨_, r, rfl, (HFIN.out c c w2 r M2.out).1, (HFIN.out c c w2 r M2.out).2.1, fun x hx => by cases hx; exact ⟨(HFIN.out c c w2 r M2.out).2.2, rfl⟩⟩
  rw [if_pos rfl] at ho
  have HNX := hide (fun W (hp : Pl W b s r) => pos_next hp _ rfl)
  obtain ⟨r1, hr1⟩ : ∃ r1, tlC r = r1 := ⟨_, rfl⟩
  rw [hr1] at ho HNX
  clear hr1
  obtain ⟨o2, ho2⟩ : ∃ o, itemP r1 = o := ⟨_, rfl⟩
  have hI2 := fun W (hp : Pl W b s r1) => item_any hp o2 ho2
  unfold ItPost at hI2
  rw [ho2] at ho
  clear ho2
  rcases o2 with _ | ⟨L2, d, r2⟩
  · simp only [Option.isSome] at hI2
    have HI2 := hide hI2
    clear hI2
    subst ho
    go_enter Tryz.func90, Tryz.ntmps90
    go_wp2_with fail
    refine HI.out.mono ?_
    rintro e w1 ⟨v, c, r, rfl, hm1, hfv, hx⟩
    obtain ⟨hrw, rfl, rfl⟩ := hx _ rfl
    clear hx
    simp only at hrw
    have M1 := hide hm1
    have HF := hide hfv
    have HRW := hide hrw
    clear hm1 hfv hrw
    go_wp2_with fail
    refine (HB.out _ (M1.out.pl HS.out)).mono ?_
    rintro e w2 ⟨rfl, hb2⟩
    have M2 := hide (M1.out.bl hb2)
    clear hb2
    go_wp2_with fail
    refine (HNX.out _ (M2.out.pl HS.out)).mono ?_
    rintro e w3 ⟨rfl, hm3⟩
    have M3 := hide (M2.out.trans hm3)
    clear hm3
    go_wp2_with fail
    refine (HI2.out _ (M3.out.pl HS.out)).mono ?_
    rintro e w4 ⟨v2, d, r2, rfl, hm4, _, _⟩
    have M4 := hide (M3.out.trans hm4)
    clear hm4
    go_wp2
    go_ret2
    exact ⟨_, r2, rfl, (HFIN.out c d w4 r2 M4.out).1, (HFIN.out c d w4 r2 M4.out).2.1, fun x hx => by cases hx⟩
  simp only [Option.isSome] at hI2
  simp only at ho
  have HI2 := hide hI2
  clear hI2
  obtain ⟨z, hz⟩ : ∃ z, bl d c = z := ⟨_, rfl⟩
  rw [hz] at ho
  cases z
  · rw [if_neg (by decide)] at ho
    subst ho
    go_enter Tryz.func90, Tryz.ntmps90
    go_wp2_with fail
    refine HI.out.mono ?_
    rintro e w1 ⟨v, c, r, rfl, hm1, hfv, hx⟩
    obtain ⟨hrw, rfl, rfl⟩ := hx _ rfl
    clear hx
    simp only at hrw
    have M1 := hide hm1
    have HF := hide hfv
    have HRW := hide hrw
    clear hm1 hfv hrw
    go_wp2_with fail
    refine (HB.out _ (M1.out.pl HS.out)).mono ?_
    rintro e w2 ⟨rfl, hb2⟩
    have M2 := hide (M1.out.bl hb2)
    clear hb2
    go_wp2_with fail
    refine (HNX.out _ (M2.out.pl HS.out)).mono ?_
    rintro e w3 ⟨rfl, hm3⟩
    have M3 := hide (M2.out.trans hm3)
    clear hm3
    go_wp2_with fail
    refine (HI2.out _ (M3.out.pl HS.out)).mono ?_
    rintro e w4 ⟨v2, d, r2, rfl, hm4, _, hx⟩
    obtain ⟨_, rfl, rfl⟩ := hx _ rfl
    clear hx
    have M4 := hide (M3.out.trans hm4)
    clear hm4
    go_wp2
    go_ret2
    exact ⟨_, r2, rfl, (HFIN.out c d w4 r2 M4.out).1, (HFIN.out c d w4 r2 M4.out).2.1, fun x hx => by cases hx; exact ⟨(HFIN.out c d w4 r2 M4.out).2.2, rfl⟩⟩
  · rw [if_pos rfl] at ho
    subst ho
    go_enter Tryz.func90, Tryz.ntmps90
    go_wp2_with fail
    refine HI.out.mono ?_
    rintro e w1 ⟨v, c, r, rfl, hm1, hfv, hx⟩
    obtain ⟨hrw, rfl, rfl⟩ := hx _ rfl
    clear hx
    simp only at hrw
    have M1 := hide hm1
    have HF := hide hfv
    have HRW := hide hrw
    clear hm1 hfv hrw
    go_wp2_with fail
    refine (HB.out _ (M1.out.pl HS.out)).mono ?_
    rintro e w2 ⟨rfl, hb2⟩
    have M2 := hide (M1.out.bl hb2)
    clear hb2
    go_wp2_with fail
    refine (HNX.out _ (M2.out.pl HS.out)).mono ?_
    rintro e w3 ⟨rfl, hm3⟩
    have M3 := hide (M2.out.trans hm3)
    clear hm3
    go_wp2_with fail
    refine (HI2.out _ (M3.out.pl HS.out)).mono ?_
    rintro e w4 ⟨v2, d, r2, rfl, hm4, _, hx⟩
    obtain ⟨_, rfl, rfl⟩ := hx _ rfl
    clear hx
    have M4 := hide (M3.out.trans hm4)
    clear hm4
    go_wp2
    go_ret2
    exact ⟨_, r2, rfl, (HFIN.out c d w4 r2 M4.out).1, (HFIN.out c d w4 r2 M4.out).2.1, fun x hx => by cases hx⟩
end
section
open Go.ChangeShapes Go.WideShapes Go.ChangeAt Go.RowKit
open SetM
set_option maxRecDepth 100000
set_option linter.unusedVariables false
theorem results_cell2 {fn : Func} {p q : Tmp} {ty : TypeId} (h : fn.results = #[.cell p ty, .tmp q]) (tmps : Array Value) (P : Program) (w : World) :
    (results fn tmps).run P w = ((asAddr (tmps.getD p undef)).run P w).andThen fun a w₁ => ((loadVar ty a).run P w₁).andThen fun v w₂ => .ok (.tuple #[v, tmps.getD q undef]) w₂ := by
  simp only [results, h]
  simp [Sem.run_bind, Result.andThen]
theorem Mv.block {w w' : World} {b : Nat} {s : ByteArray} {l : List UInt8} (h : Mv w w' b s l) {i : Nat} (hi : i < w.heap.size) (hb : i ≠ b) : w'.heap[i]? = w.heap[i]? :=
  h.1.grown.block i hi (fun e => hb (by injection e))
theorem Mv.cell {w w' : World} {b : Nat} {s : ByteArray} {l : List UInt8} (h : Mv w w' b s l) {p : Addr} {v : Value} (hc : w.cell? p = some v) (hb : p.block ≠ b) : w'.cell? p = some v := by
  have hi := World.block_lt_of_cell? _ _ hc
  rw [← hc]
  have hbk := h.block hi hb
  simp only [World.cell?, hbk]
theorem Mv.append {w w1 w2 : World} {b g : Nat} {s : ByteArray} {l : List UInt8} (h : Mv w w1 b s l) (hg : w1.grownBy w2 (some g)) (hb : g ≠ b) (hw : w.heap.size ≤ g) : Mv w w2 b s l := by
  have hlt := h.1.lt
  have hbk : w2.heap[b]? = w1.heap[b]? := hg.block b hlt (fun e => hb (by injection e with e; exact e.symm))
  have hc : ∀ q, w2.cell? ⟨b, q, none⟩ = w1.cell? ⟨b, q, none⟩ := fun q => by simp only [World.cell?, hbk]
  have hf : ∀ q, w2.frozen? ⟨b, q, none⟩ = w1.frozen? ⟨b, q, none⟩ := fun q => by simp only [World.frozen?, hbk]
  refine ⟨⟨⟨hg.os.trans h.1.grown.os, hg.tape.trans h.1.grown.tape, hg.output.trans h.1.grown.output, Nat.le_trans h.1.grown.size hg.size, fun i hi hn => ?_⟩, fun q hq => (hc q).trans (h.1.cells q hq), (hc 1).trans h.1.pos, fun q => (hf q).trans (h.1.froz q)⟩, h.2⟩
  exact (hg.block i (Nat.lt_of_lt_of_le hi h.1.grown.size) (fun e => by injection e with e; omega)).trans (h.1.grown.block i hi hn)
theorem itemP_ok {l : List UInt8} {L : List Rw} {c : ByteArray} {r : List UInt8} (h : itemP l = some (L, c, r)) :
    r.length < l.length ∧ c.size ≤ l.length + 1 ∧ (L = [] ∨ (c.size = 0 ∧ L.length ≤ 4 ∧ r.length + 2 ≤ l.length ∧ ∀ x ∈ L, x.1.size ≤ 1 ∧ x.2.size ≤ 1)) := by
  have hne : ∀ {l : List UInt8} {y : UInt8}, (hdC l == [y]) = true → (tlC l).length < l.length := by
    intro l y h
    refine tl_len l (fun h0 => ?_)
    subst h0
    have := beq_iff_eq.1 h
    cases this
  have hsz : ∀ (l : List UInt8), (bsC (hdC l)).size ≤ l.length := fun l => by rw [bsC_size, hdC_len]; exact firstN_le l
  unfold itemP at h
  by_cases h1 : (hdC l == [92]) = true
  · rw [if_pos h1] at h
    have t1 := hne h1
    have named : ∀ (y : UInt8) (K : List Rw), (hdC (tlC l) == [y]) = true → K.length ≤ 4 → (∀ x ∈ K, x.1.size ≤ 1 ∧ x.2.size ≤ 1) → some (K, (⟨#[]⟩ : ByteArray), tlC (tlC l)) = some (L, c, r) → r.length < l.length ∧ c.size ≤ l.length + 1 ∧ (L = [] ∨ (c.size = 0 ∧ L.length ≤ 4 ∧ r.length + 2 ≤ l.length ∧ ∀ x ∈ L, x.1.size ≤ 1 ∧ x.2.size ≤ 1)) := by
      intro y K hy h4 hx he
      have t2 := hne hy
      cases he
      exact ⟨by omega, Nat.zero_le _, .inr ⟨rfl, h4, by omega, hx⟩⟩
    by_cases k0 : (hdC (tlC l) == [100]) = true
    · rw [if_pos k0] at h
      exact named 100 rD k0 (by decide) (by decide) h
    rw [if_neg k0] at h
    by_cases k1 : (hdC (tlC l) == [119]) = true
    · rw [if_pos k1] at h
      exact named 119 rW k1 (by decide) (by decide) h
    rw [if_neg k1] at h
    by_cases k2 : (hdC (tlC l) == [115]) = true
    · rw [if_pos k2] at h
      exact named 115 rS k2 (by decide) (by decide) h
    rw [if_neg k2] at h
    have t2 := tl_le (tlC l)
    have hs2 := hsz (tlC l)
    obtain ⟨z, hz⟩ : ∃ z, escP (bsC (hdC (tlC l))) = z := ⟨_, rfl⟩
    rw [hz] at h
    rcases z with _ | z
    · cases h
    · have h2 : ([] : List Rw) = L ∧ z = c ∧ tlC (tlC l) = r := by simpa using h
      obtain ⟨rfl, rfl, rfl⟩ := h2
      refine ⟨by omega, ?_, .inl rfl⟩
      have : z.size ≤ 1 ∨ z = bsC (hdC (tlC l)) := by
        unfold escP at hz
        repeat' split at hz
        all_goals first
          | (injection hz with hz; subst hz; exact .inl (by decide))
          | (injection hz with hz; exact .inr hz.symm)
          | cases hz
      rcases this with h3 | rfl <;> omega
  · rw [if_neg h1] at h
    by_cases h2 : (hdC l == []) = true
    · rw [if_pos h2] at h; cases h
    · rw [if_neg h2] at h
      cases h
      have hs := hsz l
      exact ⟨tl_len l (fun h0 => h2 (by subst h0; rfl)), by omega, .inl rfl⟩
theorem rowsP_ok {l : List UInt8} {L : List Rw} {r : List UInt8} (h : rowsP l = some (L, r)) :
    r.length < l.length ∧ L.length + 2 * r.length ≤ 2 * l.length ∧ ∀ x ∈ L, x.1.size ≤ l.length + 1 ∧ x.2.size ≤ l.length + 1 := by
  unfold rowsP at h
  split at h
  · cases h
  · rename_i L1 c r1 h1
    obtain ⟨a1, a2, a3⟩ := itemP_ok h1
    by_cases hc : c.size = 0
    · rw [if_pos hc] at h
      cases h
      rcases a3 with rfl | ⟨_, b1, b2, b3⟩
      · exact ⟨a1, by simp; omega, by simp⟩
      · exact ⟨a1, by omega, fun x hx => ⟨by have := (b3 x hx).1; omega, by have := (b3 x hx).2; omega⟩⟩
    · rw [if_neg hc] at h
      by_cases hq : rngP r1 = true
      · rw [if_pos hq] at h
        split at h
        · cases h
        · rename_i L2 d r2 h2
          obtain ⟨c1, c2, _⟩ := itemP_ok h2
          have t1 := tl_le r1
          split at h
          · cases h
          · cases h
            exact ⟨by omega, by simp; omega, by simp; omega⟩
      · rw [if_neg hq] at h
        cases h
        exact ⟨a1, by simp; omega, by simp; omega⟩
def clsP : Nat → List Rw → List UInt8 → Option (List Rw × List UInt8)
  | 0, _, _ => none
  | f + 1, acc, l =>
    if (hdC l == [93]) = true then some (acc, tlC l)
    else match rowsP l with
      | none => none
      | some (L, r) => clsP f (acc ++ L) r
end
section
open Go.ChangeShapes Go.WideShapes Go.ChangeAt Go.RowKit
open SetM
attribute [local go_sem ↓] Go.wp_at_zero Go.wp_at_succ
attribute [local go_sem] later_cell later_frozen
set_option maxRecDepth 100000
set_option linter.unusedVariables false
inductive Res where
  | no
  | err (n : Int)
  | ok (x : Rt) (r : List UInt8)
def TrPost (w : World) (b : Nat) (s : ByteArray) : Res → Ending → World → Prop
  | .no, _, _ => False
  | .err n, e, w' => e = .returned (.tuple #[rt0.v, .int .i64 n]) ∧ ∃ r, Mv w w' b s r
  | .ok x r, e, w' => ∃ t, e = .returned (.tuple #[t.v, .int .i64 0]) ∧ Mv w w' b s r ∧ RxAt w' t ∧ Fr w.heap.size t ∧ er t = x
theorem Mv.frz {w w' : World} {b : Nat} {s : ByteArray} {l : List UInt8} (h : Mv w w' b s l) {p : Addr} (hi : p.block < w.heap.size) (hb : p.block ≠ b) : w'.frozen? p = w.frozen? p := by
  have hbk := h.block hi hb
  simp only [World.frozen?, hbk]
theorem Mv.put {w w1 : World} {b g : Nat} {s : ByteArray} {l : List UInt8} (h : Mv w w1 b s l) (hb : g ≠ b) (hw : w.heap.size ≤ g) (o : Nat) (u : Value) : Mv w (w1.setCell ⟨g, o, none⟩ u) b s l :=
  h.append (grown_set (grown_refl w1 _) o u) hb hw
theorem mv8 {w w1 : World} {b g : Nat} {s : ByteArray} {l : List UInt8} (h : Mv w w1 b s l) (hb : g ≠ b) (hw : w.heap.size ≤ g) (o0 : Nat) (u0 : Value) (o1 : Nat) (u1 : Value) (o2 : Nat) (u2 : Value) (o3 : Nat) (u3 : Value) (o4 : Nat) (u4 : Value) (o5 : Nat) (u5 : Value) (o6 : Nat) (u6 : Value) (o7 : Nat) (u7 : Value) :
    Mv w ((((((((w1.setCell ⟨g, o0, none⟩ u0).setCell ⟨g, o1, none⟩ u1).setCell ⟨g, o2, none⟩ u2).setCell ⟨g, o3, none⟩ u3).setCell ⟨g, o4, none⟩ u4).setCell ⟨g, o5, none⟩ u5).setCell ⟨g, o6, none⟩ u6).setCell ⟨g, o7, none⟩ u7) b s l :=
  (((((((h.put hb hw _ _).put hb hw _ _).put hb hw _ _).put hb hw _ _).put hb hw _ _).put hb hw _ _).put hb hw _ _).put hb hw _ _
def setX (nt : Bool) (rows : List Rw) : Rt := .mk 4 ⟨#[]⟩ nt (.slice none 0 0) rows 0 0 false (.slice none 0 0) []
def chX (c : ByteArray) : Rt := .mk 2 c false (.slice none 0 0) [] 0 0 false (.slice none 0 0) []
def bakP (l : List UInt8) : Res :=
  if (hdC l == [98]) = true then .ok (kdX 10 []) (tlC l) else if (hdC l == [66]) = true then .ok (kdX 11 []) (tlC l)
  else if (hdC l == [100]) = true then .ok (setX false rD) (tlC l) else if (hdC l == [119]) = true then .ok (setX false rW) (tlC l) else if (hdC l == [115]) = true then .ok (setX false rS) (tlC l)
  else if (hdC l == [68]) = true then .ok (setX true rD) (tlC l) else if (hdC l == [87]) = true then .ok (setX true rW) (tlC l) else if (hdC l == [83]) = true then .ok (setX true rS) (tlC l)
  else match escP (bsC (hdC l)) with
    | none => .err 10
    | some d => .ok (chX d) (tlC l)
theorem rx_leaf (w : World) (t : Rt) (hr : t.rv = .slice none 0 0) (hr2 : t.rows = []) (hk : t.kv = .slice none 0 0) (hk2 : t.kids = []) : RxAt w t :=
  .mk t (by rw [hr, hr2]; exact .inl ⟨rfl, rfl⟩) (by rw [hk, hk2]; exact .inl ⟨rfl, rfl⟩) (fun i hi => by rw [hk2] at hi; exact absurd hi (Nat.not_lt_zero _))
theorem fr_leaf (n : Nat) (t : Rt) (hr : t.rv = .slice none 0 0) (hk : t.kv = .slice none 0 0) (hk2 : t.kids = []) : Fr n t :=
  .mk t (by rw [hr]; exact frv0 n) (by rw [hk]; exact frv0 n) (fun x hx => by rw [hk2] at hx; cases hx)
set_option maxHeartbeats 8000000 in
theorem backslash_any {w : World} {b : Nat} {s : ByteArray} {l : List UInt8} (h : Pl w b s l) (o : Res) (ho : bakP l = o) :
    Calls Tryz.prog 81 #[.pointer (some ⟨b, 0, none⟩)] w (TrPost w b s o) := by
  have HS := hide h
  have HNB := hide (show w.heap.size ≠ b from by have := World.block_lt_of_cell? _ _ h.mem.1; simp only at this; omega)
  unfold bakP at ho
  obtain ⟨L, hL⟩ : ∃ L, hdC l = L := ⟨_, rfl⟩
  have HN := hide (fun o => pos_next (h.bl (bl_alloc (bl_refl w) o)) (bsC L) (by rw [← hL]; exact chS_eq h))
  have HZ := hide (show (bsC L).size ≤ 1000000 by
    have h1 := h.le
    have h2 := h.sz
    rw [bsC_size, ← hL, hdC_len]
    have h3 := firstN_le l
    omega)
  obtain ⟨r, hr⟩ : ∃ r, tlC l = r := ⟨_, rfl⟩
  rw [hL, hr] at ho
  rw [hr] at HN
  clear h hL hr
  rcases k0 : (L == [98]) with _ | _
  rotate_left
  · rw [k0, if_pos rfl] at ho
    subst ho
    obtain ⟨u0, v0⟩ := lit_eq (bsC L) #[98] true (by rw [bsC_data]; exact k0)
    obtain ⟨C, hC⟩ : ∃ C, bsC L = C := ⟨_, rfl⟩
    rw [hC] at u0 v0 HN
    clear hC k0 HZ
    go_enter Tryz.func81, Tryz.ntmps81
    go_wp2_with fail
    refine (HN.out _).mono ?_
    rintro e w1 ⟨rfl, hm1⟩
    have hsz1 : w.heap.size < w1.heap.size := by have := hm1.fr; simp at this; omega
    have z0 : w1.cell? ⟨w.heap.size, 0, none⟩ = some (.int .i64 0) := hm1.cell (cells_lit w _ _ 0 _ rfl) HNB.out
    have z1 : w1.cell? ⟨w.heap.size, 1, none⟩ = some (.string ⟨#[]⟩) := hm1.cell (cells_lit w _ _ 1 _ rfl) HNB.out
    have z2 : w1.cell? ⟨w.heap.size, 2, none⟩ = some (.bool false) := hm1.cell (cells_lit w _ _ 2 _ rfl) HNB.out
    have z3 : w1.cell? ⟨w.heap.size, 3, none⟩ = some (.slice none 0 0) := hm1.cell (cells_lit w _ _ 3 _ rfl) HNB.out
    have z4 : w1.cell? ⟨w.heap.size, 4, none⟩ = some (.int .i64 0) := hm1.cell (cells_lit w _ _ 4 _ rfl) HNB.out
    have z5 : w1.cell? ⟨w.heap.size, 5, none⟩ = some (.int .i64 0) := hm1.cell (cells_lit w _ _ 5 _ rfl) HNB.out
    have z6 : w1.cell? ⟨w.heap.size, 6, none⟩ = some (.bool false) := hm1.cell (cells_lit w _ _ 6 _ rfl) HNB.out
    have z7 : w1.cell? ⟨w.heap.size, 7, none⟩ = some (.slice none 0 0) := hm1.cell (cells_lit w _ _ 7 _ rfl) HNB.out
    have hf1 : ∀ o, w1.frozen? ⟨w.heap.size, o, none⟩ = false := fun o => (hm1.frz (p := ⟨w.heap.size, o, none⟩) (by simp) HNB.out).trans (by go_simp)
    have M1 := hide ((HS.out.self (bl_alloc (bl_refl w) _)).trans hm1)
    clear hm1
    go_wp2
    refine bodyPost_ret (v := .tuple #[.agg #[.int .i64 10, .string ⟨#[]⟩, .bool false, .slice none 0 0, .int .i64 0, .int .i64 0, .bool false, .slice none 0 0], .int .i64 0]) ?_ rfl ⟨kdX 10 [], rfl, (mv8 M1.out HNB.out (Nat.le_refl _) _ _ _ _ _ _ _ _ _ _ _ _ _ _ _ _), rx_leaf _ _ rfl rfl rfl rfl, fr_leaf _ _ rfl rfl rfl, rfl⟩
    rw [results_cell2 rfl]
    go_simp
  rw [k0, if_neg (by decide)] at ho
  obtain ⟨u0, v0⟩ := lit_eq (bsC L) #[98] false (by rw [bsC_data]; exact k0)
  rcases k1 : (L == [66]) with _ | _
  rotate_left
  · rw [k1, if_pos rfl] at ho
    subst ho
    obtain ⟨u1, v1⟩ := lit_eq (bsC L) #[66] true (by rw [bsC_data]; exact k1)
    obtain ⟨C, hC⟩ : ∃ C, bsC L = C := ⟨_, rfl⟩
    rw [hC] at u0 v0 u1 v1 HN
    clear hC k0 k1 HZ
    go_enter Tryz.func81, Tryz.ntmps81
    go_wp2_with fail
    refine (HN.out _).mono ?_
    rintro e w1 ⟨rfl, hm1⟩
    have hsz1 : w.heap.size < w1.heap.size := by have := hm1.fr; simp at this; omega
    have z0 : w1.cell? ⟨w.heap.size, 0, none⟩ = some (.int .i64 0) := hm1.cell (cells_lit w _ _ 0 _ rfl) HNB.out
    have z1 : w1.cell? ⟨w.heap.size, 1, none⟩ = some (.string ⟨#[]⟩) := hm1.cell (cells_lit w _ _ 1 _ rfl) HNB.out
    have z2 : w1.cell? ⟨w.heap.size, 2, none⟩ = some (.bool false) := hm1.cell (cells_lit w _ _ 2 _ rfl) HNB.out
    have z3 : w1.cell? ⟨w.heap.size, 3, none⟩ = some (.slice none 0 0) := hm1.cell (cells_lit w _ _ 3 _ rfl) HNB.out
    have z4 : w1.cell? ⟨w.heap.size, 4, none⟩ = some (.int .i64 0) := hm1.cell (cells_lit w _ _ 4 _ rfl) HNB.out
    have z5 : w1.cell? ⟨w.heap.size, 5, none⟩ = some (.int .i64 0) := hm1.cell (cells_lit w _ _ 5 _ rfl) HNB.out
    have z6 : w1.cell? ⟨w.heap.size, 6, none⟩ = some (.bool false) := hm1.cell (cells_lit w _ _ 6 _ rfl) HNB.out
    have z7 : w1.cell? ⟨w.heap.size, 7, none⟩ = some (.slice none 0 0) := hm1.cell (cells_lit w _ _ 7 _ rfl) HNB.out
    have hf1 : ∀ o, w1.frozen? ⟨w.heap.size, o, none⟩ = false := fun o => (hm1.frz (p := ⟨w.heap.size, o, none⟩) (by simp) HNB.out).trans (by go_simp)
    have M1 := hide ((HS.out.self (bl_alloc (bl_refl w) _)).trans hm1)
    clear hm1
    go_wp2
    refine bodyPost_ret (v := .tuple #[.agg #[.int .i64 11, .string ⟨#[]⟩, .bool false, .slice none 0 0, .int .i64 0, .int .i64 0, .bool false, .slice none 0 0], .int .i64 0]) ?_ rfl ⟨kdX 11 [], rfl, (mv8 M1.out HNB.out (Nat.le_refl _) _ _ _ _ _ _ _ _ _ _ _ _ _ _ _ _), rx_leaf _ _ rfl rfl rfl rfl, fr_leaf _ _ rfl rfl rfl, rfl⟩
    rw [results_cell2 rfl]
    go_simp
  rw [k1, if_neg (by decide)] at ho
  obtain ⟨u1, v1⟩ := lit_eq (bsC L) #[66] false (by rw [bsC_data]; exact k1)
  rcases k2 : (L == [100]) with _ | _
  rotate_left
  · rw [k2, if_pos rfl] at ho
    subst ho
    obtain ⟨u2, v2⟩ := lit_eq (bsC L) #[100] true (by rw [bsC_data]; exact k2)
    obtain ⟨C, hC⟩ : ∃ C, bsC L = C := ⟨_, rfl⟩
    have hp : 0 < C.size := by rw [← hC, bsC_size, show L = [100] by simpa using k2]; decide
    have hi : ((C[0]'hp).toNat : Int) = 100 := by
      subst hC
      exact bsC_0 (show L = [100] by simpa using k2) hp
    have i0 : (0 : Int) < (C.size : Int) := by omega
    have hfd : mapS downB C = ⟨#[100]⟩ := by
      rw [← hC, show L = [100] by simpa using k2]
      apply ByteArray.ext; apply Array.ext'
      decide
    have HFD := hide (fun W => fold_any C W (by rw [← hC]; exact HZ.out))
    rw [hfd] at HFD
    have HUP := hide (fun W => upp_m 100 (by decide) (by decide) W)
    rw [show uppZ 100 = false from by decide] at HUP
    have e1 : namR 100 = rD := rfl
    have e2 : namB 100 = true := rfl
    have hnm := fun W => namf_any 100 W
    rw [e1, e2] at hnm
    unfold NmfPost at hnm
    have HNM := hide hnm
    rw [hC] at u0 v0 u1 v1 u2 v2 HN
    clear hC k0 k1 k2 hnm e1 e2 HZ hfd
    go_enter Tryz.func81, Tryz.ntmps81
    go_wp2_with fail
    refine (HN.out _).mono ?_
    rintro e w1 ⟨rfl, hm1⟩
    have hsz1 : w.heap.size < w1.heap.size := by have := hm1.fr; simp at this; omega
    have z0 : w1.cell? ⟨w.heap.size, 0, none⟩ = some (.int .i64 0) := hm1.cell (cells_lit w _ _ 0 _ rfl) HNB.out
    have z1 : w1.cell? ⟨w.heap.size, 1, none⟩ = some (.string ⟨#[]⟩) := hm1.cell (cells_lit w _ _ 1 _ rfl) HNB.out
    have z2 : w1.cell? ⟨w.heap.size, 2, none⟩ = some (.bool false) := hm1.cell (cells_lit w _ _ 2 _ rfl) HNB.out
    have z3 : w1.cell? ⟨w.heap.size, 3, none⟩ = some (.slice none 0 0) := hm1.cell (cells_lit w _ _ 3 _ rfl) HNB.out
    have z4 : w1.cell? ⟨w.heap.size, 4, none⟩ = some (.int .i64 0) := hm1.cell (cells_lit w _ _ 4 _ rfl) HNB.out
    have z5 : w1.cell? ⟨w.heap.size, 5, none⟩ = some (.int .i64 0) := hm1.cell (cells_lit w _ _ 5 _ rfl) HNB.out
    have z6 : w1.cell? ⟨w.heap.size, 6, none⟩ = some (.bool false) := hm1.cell (cells_lit w _ _ 6 _ rfl) HNB.out
    have z7 : w1.cell? ⟨w.heap.size, 7, none⟩ = some (.slice none 0 0) := hm1.cell (cells_lit w _ _ 7 _ rfl) HNB.out
    have hf1 : ∀ o, w1.frozen? ⟨w.heap.size, o, none⟩ = false := fun o => (hm1.frz (p := ⟨w.heap.size, o, none⟩) (by simp) HNB.out).trans (by go_simp)
    have M1 := hide ((HS.out.self (bl_alloc (bl_refl w) _)).trans hm1)
    clear hm1
    go_wp2_with fail
    refine (HFD.out _).mono ?_
    rintro e w2 ⟨rfl, hb2⟩
    have M2 := hide (M1.out.bl hb2)
    replace z0 := cell_later hb2 z0
    replace z1 := cell_later hb2 z1
    replace z2 := cell_later hb2 z2
    replace z3 := cell_later hb2 z3
    replace z4 := cell_later hb2 z4
    replace z5 := cell_later hb2 z5
    replace z6 := cell_later hb2 z6
    replace z7 := cell_later hb2 z7
    have hf2 : ∀ o, w2.frozen? ⟨w.heap.size, o, none⟩ = false := fun o => (hb2.frozen (p := ⟨w.heap.size, o, none⟩) hsz1).trans (hf1 o)
    have hsz2 : w.heap.size < w2.heap.size := Nat.lt_of_lt_of_le hsz1 hb2.size
    clear hb2 hf1
    go_wp2_with fail
    refine (HNM.out _).mono ?_
    rintro e w3 ⟨v, rfl, hb3, hrw, hfv⟩
    have M3 := hide (M2.out.bl hb3)
    replace z0 := cell_later hb3 z0
    replace z1 := cell_later hb3 z1
    replace z2 := cell_later hb3 z2
    replace z3 := cell_later hb3 z3
    replace z4 := cell_later hb3 z4
    replace z5 := cell_later hb3 z5
    replace z6 := cell_later hb3 z6
    replace z7 := cell_later hb3 z7
    have hf3 : ∀ o, w3.frozen? ⟨w.heap.size, o, none⟩ = false := fun o => (hb3.frozen (p := ⟨w.heap.size, o, none⟩) hsz2).trans (hf2 o)
    have HSZ2 := hide hsz2
    obtain ⟨vA, vc, rfl⟩ := rwat_len hrw
    have HRW := hide hrw
    have HFV := hide hfv
    clear hb3 hf2 hrw hfv
    go_wp2_with fail
    refine (HUP.out _).mono ?_
    rintro e w4 ⟨rfl, rfl⟩
    go_wp2
    refine bodyPost_ret (v := .tuple #[.agg #[.int .i64 4, .string ⟨#[]⟩, .bool false, .slice vA rD.length vc, .int .i64 0, .int .i64 0, .bool false, .slice none 0 0], .int .i64 0]) ?_ rfl ⟨.mk 4 ⟨#[]⟩ false (.slice vA rD.length vc) rD 0 0 false (.slice none 0 0) [], rfl, (mv8 M3.out HNB.out (Nat.le_refl _) _ _ _ _ _ _ _ _ _ _ _ _ _ _ _ _), ?_, ?_, ?_⟩
    · rw [results_cell2 rfl]
      go_simp
    · exact .mk _ (rwat_kept HRW.out HFV.out (kept8 _ HSZ2.out _ _ _ _ _ _ _ _ _ _ _ _ _ _ _ _)) (.inl ⟨rfl, rfl⟩) (fun i hi => absurd hi (Nat.not_lt_zero _))
    · exact .mk _ (FrV.mono HFV.out (Nat.le_of_lt HSZ2.out)) (frv0 _) (fun x hx => by cases hx)
    · rw [er_eq]; rfl
  rw [k2, if_neg (by decide)] at ho
  obtain ⟨u2, v2⟩ := lit_eq (bsC L) #[100] false (by rw [bsC_data]; exact k2)
  rcases k3 : (L == [119]) with _ | _
  rotate_left
  · rw [k3, if_pos rfl] at ho
    subst ho
    obtain ⟨u3, v3⟩ := lit_eq (bsC L) #[119] true (by rw [bsC_data]; exact k3)
    obtain ⟨C, hC⟩ : ∃ C, bsC L = C := ⟨_, rfl⟩
    have hp : 0 < C.size := by rw [← hC, bsC_size, show L = [119] by simpa using k3]; decide
    have hi : ((C[0]'hp).toNat : Int) = 119 := by
      subst hC
      exact bsC_0 (show L = [119] by simpa using k3) hp
    have i0 : (0 : Int) < (C.size : Int) := by omega
    have hfd : mapS downB C = ⟨#[119]⟩ := by
      rw [← hC, show L = [119] by simpa using k3]
      apply ByteArray.ext; apply Array.ext'
      decide
    have HFD := hide (fun W => fold_any C W (by rw [← hC]; exact HZ.out))
    rw [hfd] at HFD
    have HUP := hide (fun W => upp_m 119 (by decide) (by decide) W)
    rw [show uppZ 119 = false from by decide] at HUP
    have e1 : namR 119 = rW := rfl
    have e2 : namB 119 = true := rfl
    have hnm := fun W => namf_any 119 W
    rw [e1, e2] at hnm
    unfold NmfPost at hnm
    have HNM := hide hnm
    rw [hC] at u0 v0 u1 v1 u2 v2 u3 v3 HN
    clear hC k0 k1 k2 k3 hnm e1 e2 HZ hfd
    go_enter Tryz.func81, Tryz.ntmps81
    go_wp2_with fail
    refine (HN.out _).mono ?_
    rintro e w1 ⟨rfl, hm1⟩
    have hsz1 : w.heap.size < w1.heap.size := by have := hm1.fr; simp at this; omega
    have z0 : w1.cell? ⟨w.heap.size, 0, none⟩ = some (.int .i64 0) := hm1.cell (cells_lit w _ _ 0 _ rfl) HNB.out
    have z1 : w1.cell? ⟨w.heap.size, 1, none⟩ = some (.string ⟨#[]⟩) := hm1.cell (cells_lit w _ _ 1 _ rfl) HNB.out
    have z2 : w1.cell? ⟨w.heap.size, 2, none⟩ = some (.bool false) := hm1.cell (cells_lit w _ _ 2 _ rfl) HNB.out
    have z3 : w1.cell? ⟨w.heap.size, 3, none⟩ = some (.slice none 0 0) := hm1.cell (cells_lit w _ _ 3 _ rfl) HNB.out
    have z4 : w1.cell? ⟨w.heap.size, 4, none⟩ = some (.int .i64 0) := hm1.cell (cells_lit w _ _ 4 _ rfl) HNB.out
    have z5 : w1.cell? ⟨w.heap.size, 5, none⟩ = some (.int .i64 0) := hm1.cell (cells_lit w _ _ 5 _ rfl) HNB.out
    have z6 : w1.cell? ⟨w.heap.size, 6, none⟩ = some (.bool false) := hm1.cell (cells_lit w _ _ 6 _ rfl) HNB.out
    have z7 : w1.cell? ⟨w.heap.size, 7, none⟩ = some (.slice none 0 0) := hm1.cell (cells_lit w _ _ 7 _ rfl) HNB.out
    have hf1 : ∀ o, w1.frozen? ⟨w.heap.size, o, none⟩ = false := fun o => (hm1.frz (p := ⟨w.heap.size, o, none⟩) (by simp) HNB.out).trans (by go_simp)
    have M1 := hide ((HS.out.self (bl_alloc (bl_refl w) _)).trans hm1)
    clear hm1
    go_wp2_with fail
    refine (HFD.out _).mono ?_
    rintro e w2 ⟨rfl, hb2⟩
    have M2 := hide (M1.out.bl hb2)
    replace z0 := cell_later hb2 z0
    replace z1 := cell_later hb2 z1
    replace z2 := cell_later hb2 z2
    replace z3 := cell_later hb2 z3
    replace z4 := cell_later hb2 z4
    replace z5 := cell_later hb2 z5
    replace z6 := cell_later hb2 z6
    replace z7 := cell_later hb2 z7
    have hf2 : ∀ o, w2.frozen? ⟨w.heap.size, o, none⟩ = false := fun o => (hb2.frozen (p := ⟨w.heap.size, o, none⟩) hsz1).trans (hf1 o)
    have hsz2 : w.heap.size < w2.heap.size := Nat.lt_of_lt_of_le hsz1 hb2.size
    clear hb2 hf1
    go_wp2_with fail
    refine (HNM.out _).mono ?_
    rintro e w3 ⟨v, rfl, hb3, hrw, hfv⟩
    have M3 := hide (M2.out.bl hb3)
    replace z0 := cell_later hb3 z0
    replace z1 := cell_later hb3 z1
    replace z2 := cell_later hb3 z2
    replace z3 := cell_later hb3 z3
    replace z4 := cell_later hb3 z4
    replace z5 := cell_later hb3 z5
    replace z6 := cell_later hb3 z6
    replace z7 := cell_later hb3 z7
    have hf3 : ∀ o, w3.frozen? ⟨w.heap.size, o, none⟩ = false := fun o => (hb3.frozen (p := ⟨w.heap.size, o, none⟩) hsz2).trans (hf2 o)
    have HSZ2 := hide hsz2
    obtain ⟨vA, vc, rfl⟩ := rwat_len hrw
    have HRW := hide hrw
    have HFV := hide hfv
    clear hb3 hf2 hrw hfv
    go_wp2_with fail
    refine (HUP.out _).mono ?_
    rintro e w4 ⟨rfl, rfl⟩
    go_wp2
    refine bodyPost_ret (v := .tuple #[.agg #[.int .i64 4, .string ⟨#[]⟩, .bool false, .slice vA rW.length vc, .int .i64 0, .int .i64 0, .bool false, .slice none 0 0], .int .i64 0]) ?_ rfl ⟨.mk 4 ⟨#[]⟩ false (.slice vA rW.length vc) rW 0 0 false (.slice none 0 0) [], rfl, (mv8 M3.out HNB.out (Nat.le_refl _) _ _ _ _ _ _ _ _ _ _ _ _ _ _ _ _), ?_, ?_, ?_⟩
    · rw [results_cell2 rfl]
      go_simp
    · exact .mk _ (rwat_kept HRW.out HFV.out (kept8 _ HSZ2.out _ _ _ _ _ _ _ _ _ _ _ _ _ _ _ _)) (.inl ⟨rfl, rfl⟩) (fun i hi => absurd hi (Nat.not_lt_zero _))
    · exact .mk _ (FrV.mono HFV.out (Nat.le_of_lt HSZ2.out)) (frv0 _) (fun x hx => by cases hx)
    · rw [er_eq]; rfl
  rw [k3, if_neg (by decide)] at ho
  obtain ⟨u3, v3⟩ := lit_eq (bsC L) #[119] false (by rw [bsC_data]; exact k3)
  rcases k4 : (L == [115]) with _ | _
  rotate_left
  · rw [k4, if_pos rfl] at ho
    subst ho
    obtain ⟨u4, v4⟩ := lit_eq (bsC L) #[115] true (by rw [bsC_data]; exact k4)
    obtain ⟨C, hC⟩ : ∃ C, bsC L = C := ⟨_, rfl⟩
    have hp : 0 < C.size := by rw [← hC, bsC_size, show L = [115] by simpa using k4]; decide
    have hi : ((C[0]'hp).toNat : Int) = 115 := by
      subst hC
      exact bsC_0 (show L = [115] by simpa using k4) hp
    have i0 : (0 : Int) < (C.size : Int) := by omega
    have hfd : mapS downB C = ⟨#[115]⟩ := by
      rw [← hC, show L = [115] by simpa using k4]
      apply ByteArray.ext; apply Array.ext'
      decide
    have HFD := hide (fun W => fold_any C W (by rw [← hC]; exact HZ.out))
    rw [hfd] at HFD
    have HUP := hide (fun W => upp_m 115 (by decide) (by decide) W)
    rw [show uppZ 115 = false from by decide] at HUP
    have e1 : namR 115 = rS := rfl
    have e2 : namB 115 = true := rfl
    have hnm := fun W => namf_any 115 W
    rw [e1, e2] at hnm
    unfold NmfPost at hnm
    have HNM := hide hnm
    rw [hC] at u0 v0 u1 v1 u2 v2 u3 v3 u4 v4 HN
    clear hC k0 k1 k2 k3 k4 hnm e1 e2 HZ hfd
    go_enter Tryz.func81, Tryz.ntmps81
    go_wp2_with fail
    refine (HN.out _).mono ?_
    rintro e w1 ⟨rfl, hm1⟩
    have hsz1 : w.heap.size < w1.heap.size := by have := hm1.fr; simp at this; omega
    have z0 : w1.cell? ⟨w.heap.size, 0, none⟩ = some (.int .i64 0) := hm1.cell (cells_lit w _ _ 0 _ rfl) HNB.out
    have z1 : w1.cell? ⟨w.heap.size, 1, none⟩ = some (.string ⟨#[]⟩) := hm1.cell (cells_lit w _ _ 1 _ rfl) HNB.out
    have z2 : w1.cell? ⟨w.heap.size, 2, none⟩ = some (.bool false) := hm1.cell (cells_lit w _ _ 2 _ rfl) HNB.out
    have z3 : w1.cell? ⟨w.heap.size, 3, none⟩ = some (.slice none 0 0) := hm1.cell (cells_lit w _ _ 3 _ rfl) HNB.out
    have z4 : w1.cell? ⟨w.heap.size, 4, none⟩ = some (.int .i64 0) := hm1.cell (cells_lit w _ _ 4 _ rfl) HNB.out
    have z5 : w1.cell? ⟨w.heap.size, 5, none⟩ = some (.int .i64 0) := hm1.cell (cells_lit w _ _ 5 _ rfl) HNB.out
    have z6 : w1.cell? ⟨w.heap.size, 6, none⟩ = some (.bool false) := hm1.cell (cells_lit w _ _ 6 _ rfl) HNB.out
    have z7 : w1.cell? ⟨w.heap.size, 7, none⟩ = some (.slice none 0 0) := hm1.cell (cells_lit w _ _ 7 _ rfl) HNB.out
    have hf1 : ∀ o, w1.frozen? ⟨w.heap.size, o, none⟩ = false := fun o => (hm1.frz (p := ⟨w.heap.size, o, none⟩) (by simp) HNB.out).trans (by go_simp)
    have M1 := hide ((HS.out.self (bl_alloc (bl_refl w) _)).trans hm1)
    clear hm1
    go_wp2_with fail
    refine (HFD.out _).mono ?_
    rintro e w2 ⟨rfl, hb2⟩
    have M2 := hide (M1.out.bl hb2)
    replace z0 := cell_later hb2 z0
    replace z1 := cell_later hb2 z1
    replace z2 := cell_later hb2 z2
    replace z3 := cell_later hb2 z3
    replace z4 := cell_later hb2 z4
    replace z5 := cell_later hb2 z5
    replace z6 := cell_later hb2 z6
    replace z7 := cell_later hb2 z7
    have hf2 : ∀ o, w2.frozen? ⟨w.heap.size, o, none⟩ = false := fun o => (hb2.frozen (p := ⟨w.heap.size, o, none⟩) hsz1).trans (hf1 o)
    have hsz2 : w.heap.size < w2.heap.size := Nat.lt_of_lt_of_le hsz1 hb2.size
    clear hb2 hf1
    go_wp2_with fail
    refine (HNM.out _).mono ?_
    rintro e w3 ⟨v, rfl, hb3, hrw, hfv⟩
    have M3 := hide (M2.out.bl hb3)
    replace z0 := cell_later hb3 z0
    replace z1 := cell_later hb3 z1
    replace z2 := cell_later hb3 z2
    replace z3 := cell_later hb3 z3
    replace z4 := cell_later hb3 z4
    replace z5 := cell_later hb3 z5
    replace z6 := cell_later hb3 z6
    replace z7 := cell_later hb3 z7
    have hf3 : ∀ o, w3.frozen? ⟨w.heap.size, o, none⟩ = false := fun o => (hb3.frozen (p := ⟨w.heap.size, o, none⟩) hsz2).trans (hf2 o)
    have HSZ2 := hide hsz2
    obtain ⟨vA, vc, rfl⟩ := rwat_len hrw
    have HRW := hide hrw
    have HFV := hide hfv
    clear hb3 hf2 hrw hfv
    go_wp2_with fail
    refine (HUP.out _).mono ?_
    rintro e w4 ⟨rfl, rfl⟩
    go_wp2
    refine bodyPost_ret (v := .tuple #[.agg #[.int .i64 4, .string ⟨#[]⟩, .bool false, .slice vA rS.length vc, .int .i64 0, .int .i64 0, .bool false, .slice none 0 0], .int .i64 0]) ?_ rfl ⟨.mk 4 ⟨#[]⟩ false (.slice vA rS.length vc) rS 0 0 false (.slice none 0 0) [], rfl, (mv8 M3.out HNB.out (Nat.le_refl _) _ _ _ _ _ _ _ _ _ _ _ _ _ _ _ _), ?_, ?_, ?_⟩
    · rw [results_cell2 rfl]
      go_simp
    · exact .mk _ (rwat_kept HRW.out HFV.out (kept8 _ HSZ2.out _ _ _ _ _ _ _ _ _ _ _ _ _ _ _ _)) (.inl ⟨rfl, rfl⟩) (fun i hi => absurd hi (Nat.not_lt_zero _))
    · exact .mk _ (FrV.mono HFV.out (Nat.le_of_lt HSZ2.out)) (frv0 _) (fun x hx => by cases hx)
    · rw [er_eq]; rfl
  rw [k4, if_neg (by decide)] at ho
  obtain ⟨u4, v4⟩ := lit_eq (bsC L) #[115] false (by rw [bsC_data]; exact k4)
  rcases k5 : (L == [68]) with _ | _
  rotate_left
  · rw [k5, if_pos rfl] at ho
    subst ho
    obtain ⟨u5, v5⟩ := lit_eq (bsC L) #[68] true (by rw [bsC_data]; exact k5)
    obtain ⟨C, hC⟩ : ∃ C, bsC L = C := ⟨_, rfl⟩
    have hp : 0 < C.size := by rw [← hC, bsC_size, show L = [68] by simpa using k5]; decide
    have hi : ((C[0]'hp).toNat : Int) = 68 := by
      subst hC
      exact bsC_0 (show L = [68] by simpa using k5) hp
    have i0 : (0 : Int) < (C.size : Int) := by omega
    have hfd : mapS downB C = ⟨#[100]⟩ := by
      rw [← hC, show L = [68] by simpa using k5]
      apply ByteArray.ext; apply Array.ext'
      decide
    have HFD := hide (fun W => fold_any C W (by rw [← hC]; exact HZ.out))
    rw [hfd] at HFD
    have HUP := hide (fun W => upp_m 68 (by decide) (by decide) W)
    rw [show uppZ 68 = true from by decide] at HUP
    have e1 : namR 100 = rD := rfl
    have e2 : namB 100 = true := rfl
    have hnm := fun W => namf_any 100 W
    rw [e1, e2] at hnm
    unfold NmfPost at hnm
    have HNM := hide hnm
    rw [hC] at u0 v0 u1 v1 u2 v2 u3 v3 u4 v4 u5 v5 HN
    clear hC k0 k1 k2 k3 k4 k5 hnm e1 e2 HZ hfd
    go_enter Tryz.func81, Tryz.ntmps81
    go_wp2_with fail
    refine (HN.out _).mono ?_
    rintro e w1 ⟨rfl, hm1⟩
    have hsz1 : w.heap.size < w1.heap.size := by have := hm1.fr; simp at this; omega
    have z0 : w1.cell? ⟨w.heap.size, 0, none⟩ = some (.int .i64 0) := hm1.cell (cells_lit w _ _ 0 _ rfl) HNB.out
    have z1 : w1.cell? ⟨w.heap.size, 1, none⟩ = some (.string ⟨#[]⟩) := hm1.cell (cells_lit w _ _ 1 _ rfl) HNB.out
    have z2 : w1.cell? ⟨w.heap.size, 2, none⟩ = some (.bool false) := hm1.cell (cells_lit w _ _ 2 _ rfl) HNB.out
    have z3 : w1.cell? ⟨w.heap.size, 3, none⟩ = some (.slice none 0 0) := hm1.cell (cells_lit w _ _ 3 _ rfl) HNB.out
    have z4 : w1.cell? ⟨w.heap.size, 4, none⟩ = some (.int .i64 0) := hm1.cell (cells_lit w _ _ 4 _ rfl) HNB.out
    have z5 : w1.cell? ⟨w.heap.size, 5, none⟩ = some (.int .i64 0) := hm1.cell (cells_lit w _ _ 5 _ rfl) HNB.out
    have z6 : w1.cell? ⟨w.heap.size, 6, none⟩ = some (.bool false) := hm1.cell (cells_lit w _ _ 6 _ rfl) HNB.out
    have z7 : w1.cell? ⟨w.heap.size, 7, none⟩ = some (.slice none 0 0) := hm1.cell (cells_lit w _ _ 7 _ rfl) HNB.out
    have hf1 : ∀ o, w1.frozen? ⟨w.heap.size, o, none⟩ = false := fun o => (hm1.frz (p := ⟨w.heap.size, o, none⟩) (by simp) HNB.out).trans (by go_simp)
    have M1 := hide ((HS.out.self (bl_alloc (bl_refl w) _)).trans hm1)
    clear hm1
    go_wp2_with fail
    refine (HFD.out _).mono ?_
    rintro e w2 ⟨rfl, hb2⟩
    have M2 := hide (M1.out.bl hb2)
    replace z0 := cell_later hb2 z0
    replace z1 := cell_later hb2 z1
    replace z2 := cell_later hb2 z2
    replace z3 := cell_later hb2 z3
    replace z4 := cell_later hb2 z4
    replace z5 := cell_later hb2 z5
    replace z6 := cell_later hb2 z6
    replace z7 := cell_later hb2 z7
    have hf2 : ∀ o, w2.frozen? ⟨w.heap.size, o, none⟩ = false := fun o => (hb2.frozen (p := ⟨w.heap.size, o, none⟩) hsz1).trans (hf1 o)
    have hsz2 : w.heap.size < w2.heap.size := Nat.lt_of_lt_of_le hsz1 hb2.size
    clear hb2 hf1
    go_wp2_with fail
    refine (HNM.out _).mono ?_
    rintro e w3 ⟨v, rfl, hb3, hrw, hfv⟩
    have M3 := hide (M2.out.bl hb3)
    replace z0 := cell_later hb3 z0
    replace z1 := cell_later hb3 z1
    replace z2 := cell_later hb3 z2
    replace z3 := cell_later hb3 z3
    replace z4 := cell_later hb3 z4
    replace z5 := cell_later hb3 z5
    replace z6 := cell_later hb3 z6
    replace z7 := cell_later hb3 z7
    have hf3 : ∀ o, w3.frozen? ⟨w.heap.size, o, none⟩ = false := fun o => (hb3.frozen (p := ⟨w.heap.size, o, none⟩) hsz2).trans (hf2 o)
    have HSZ2 := hide hsz2
    obtain ⟨vA, vc, rfl⟩ := rwat_len hrw
    have HRW := hide hrw
    have HFV := hide hfv
    clear hb3 hf2 hrw hfv
    go_wp2_with fail
    refine (HUP.out _).mono ?_
    rintro e w4 ⟨rfl, rfl⟩
    go_wp2
    refine bodyPost_ret (v := .tuple #[.agg #[.int .i64 4, .string ⟨#[]⟩, .bool true, .slice vA rD.length vc, .int .i64 0, .int .i64 0, .bool false, .slice none 0 0], .int .i64 0]) ?_ rfl ⟨.mk 4 ⟨#[]⟩ true (.slice vA rD.length vc) rD 0 0 false (.slice none 0 0) [], rfl, (mv8 M3.out HNB.out (Nat.le_refl _) _ _ _ _ _ _ _ _ _ _ _ _ _ _ _ _), ?_, ?_, ?_⟩
    · rw [results_cell2 rfl]
      go_simp
    · exact .mk _ (rwat_kept HRW.out HFV.out (kept8 _ HSZ2.out _ _ _ _ _ _ _ _ _ _ _ _ _ _ _ _)) (.inl ⟨rfl, rfl⟩) (fun i hi => absurd hi (Nat.not_lt_zero _))
    · exact .mk _ (FrV.mono HFV.out (Nat.le_of_lt HSZ2.out)) (frv0 _) (fun x hx => by cases hx)
    · rw [er_eq]; rfl
  rw [k5, if_neg (by decide)] at ho
  obtain ⟨u5, v5⟩ := lit_eq (bsC L) #[68] false (by rw [bsC_data]; exact k5)
  rcases k6 : (L == [87]) with _ | _
  rotate_left
  · rw [k6, if_pos rfl] at ho
    subst ho
    obtain ⟨u6, v6⟩ := lit_eq (bsC L) #[87] true (by rw [bsC_data]; exact k6)
    obtain ⟨C, hC⟩ : ∃ C, bsC L = C := ⟨_, rfl⟩
    have hp : 0 < C.size := by rw [← hC, bsC_size, show L = [87] by simpa using k6]; decide
    have hi : ((C[0]'hp).toNat : Int) = 87 := by
      subst hC
      exact bsC_0 (show L = [87] by simpa using k6) hp
    have i0 : (0 : Int) < (C.size : Int) := by omega
    have hfd : mapS downB C = ⟨#[119]⟩ := by
      rw [← hC, show L = [87] by simpa using k6]
      apply ByteArray.ext; apply Array.ext'
      decide
    have HFD := hide (fun W => fold_any C W (by rw [← hC]; exact HZ.out))
    rw [hfd] at HFD
    have HUP := hide (fun W => upp_m 87 (by decide) (by decide) W)
    rw [show uppZ 87 = true from by decide] at HUP
    have e1 : namR 119 = rW := rfl
    have e2 : namB 119 = true := rfl
    have hnm := fun W => namf_any 119 W
    rw [e1, e2] at hnm
    unfold NmfPost at hnm
    have HNM := hide hnm
    rw [hC] at u0 v0 u1 v1 u2 v2 u3 v3 u4 v4 u5 v5 u6 v6 HN
    clear hC k0 k1 k2 k3 k4 k5 k6 hnm e1 e2 HZ hfd
    go_enter Tryz.func81, Tryz.ntmps81
    go_wp2_with fail
    refine (HN.out _).mono ?_
    rintro e w1 ⟨rfl, hm1⟩
    have hsz1 : w.heap.size < w1.heap.size := by have := hm1.fr; simp at this; omega
    have z0 : w1.cell? ⟨w.heap.size, 0, none⟩ = some (.int .i64 0) := hm1.cell (cells_lit w _ _ 0 _ rfl) HNB.out
    have z1 : w1.cell? ⟨w.heap.size, 1, none⟩ = some (.string ⟨#[]⟩) := hm1.cell (cells_lit w _ _ 1 _ rfl) HNB.out
    have z2 : w1.cell? ⟨w.heap.size, 2, none⟩ = some (.bool false) := hm1.cell (cells_lit w _ _ 2 _ rfl) HNB.out
    have z3 : w1.cell? ⟨w.heap.size, 3, none⟩ = some (.slice none 0 0) := hm1.cell (cells_lit w _ _ 3 _ rfl) HNB.out
    have z4 : w1.cell? ⟨w.heap.size, 4, none⟩ = some (.int .i64 0) := hm1.cell (cells_lit w _ _ 4 _ rfl) HNB.out
    have z5 : w1.cell? ⟨w.heap.size, 5, none⟩ = some (.int .i64 0) := hm1.cell (cells_lit w _ _ 5 _ rfl) HNB.out
    have z6 : w1.cell? ⟨w.heap.size, 6, none⟩ = some (.bool false) := hm1.cell (cells_lit w _ _ 6 _ rfl) HNB.out
    have z7 : w1.cell? ⟨w.heap.size, 7, none⟩ = some (.slice none 0 0) := hm1.cell (cells_lit w _ _ 7 _ rfl) HNB.out
    have hf1 : ∀ o, w1.frozen? ⟨w.heap.size, o, none⟩ = false := fun o => (hm1.frz (p := ⟨w.heap.size, o, none⟩) (by simp) HNB.out).trans (by go_simp)
    have M1 := hide ((HS.out.self (bl_alloc (bl_refl w) _)).trans hm1)
    clear hm1
    go_wp2_with fail
    refine (HFD.out _).mono ?_
    rintro e w2 ⟨rfl, hb2⟩
    have M2 := hide (M1.out.bl hb2)
    replace z0 := cell_later hb2 z0
    replace z1 := cell_later hb2 z1
    replace z2 := cell_later hb2 z2
    replace z3 := cell_later hb2 z3
    replace z4 := cell_later hb2 z4
    replace z5 := cell_later hb2 z5
    replace z6 := cell_later hb2 z6
    replace z7 := cell_later hb2 z7
    have hf2 : ∀ o, w2.frozen? ⟨w.heap.size, o, none⟩ = false := fun o => (hb2.frozen (p := ⟨w.heap.size, o, none⟩) hsz1).trans (hf1 o)
    have hsz2 : w.heap.size < w2.heap.size := Nat.lt_of_lt_of_le hsz1 hb2.size
    clear hb2 hf1
    go_wp2_with fail
    refine (HNM.out _).mono ?_
    rintro e w3 ⟨v, rfl, hb3, hrw, hfv⟩
    have M3 := hide (M2.out.bl hb3)
    replace z0 := cell_later hb3 z0
    replace z1 := cell_later hb3 z1
    replace z2 := cell_later hb3 z2
    replace z3 := cell_later hb3 z3
    replace z4 := cell_later hb3 z4
    replace z5 := cell_later hb3 z5
    replace z6 := cell_later hb3 z6
    replace z7 := cell_later hb3 z7
    have hf3 : ∀ o, w3.frozen? ⟨w.heap.size, o, none⟩ = false := fun o => (hb3.frozen (p := ⟨w.heap.size, o, none⟩) hsz2).trans (hf2 o)
    have HSZ2 := hide hsz2
    obtain ⟨vA, vc, rfl⟩ := rwat_len hrw
    have HRW := hide hrw
    have HFV := hide hfv
    clear hb3 hf2 hrw hfv
    go_wp2_with fail
    refine (HUP.out _).mono ?_
    rintro e w4 ⟨rfl, rfl⟩
    go_wp2
    refine bodyPost_ret (v := .tuple #[.agg #[.int .i64 4, .string ⟨#[]⟩, .bool true, .slice vA rW.length vc, .int .i64 0, .int .i64 0, .bool false, .slice none 0 0], .int .i64 0]) ?_ rfl ⟨.mk 4 ⟨#[]⟩ true (.slice vA rW.length vc) rW 0 0 false (.slice none 0 0) [], rfl, (mv8 M3.out HNB.out (Nat.le_refl _) _ _ _ _ _ _ _ _ _ _ _ _ _ _ _ _), ?_, ?_, ?_⟩
    · rw [results_cell2 rfl]
      go_simp
    · exact .mk _ (rwat_kept HRW.out HFV.out (kept8 _ HSZ2.out _ _ _ _ _ _ _ _ _ _ _ _ _ _ _ _)) (.inl ⟨rfl, rfl⟩) (fun i hi => absurd hi (Nat.not_lt_zero _))
    · exact .mk _ (FrV.mono HFV.out (Nat.le_of_lt HSZ2.out)) (frv0 _) (fun x hx => by cases hx)
    · rw [er_eq]; rfl
  rw [k6, if_neg (by decide)] at ho
  obtain ⟨u6, v6⟩ := lit_eq (bsC L) #[87] false (by rw [bsC_data]; exact k6)
  rcases k7 : (L == [83]) with _ | _
  rotate_left
  · rw [k7, if_pos rfl] at ho
    subst ho
    obtain ⟨u7, v7⟩ := lit_eq (bsC L) #[83] true (by rw [bsC_data]; exact k7)
    obtain ⟨C, hC⟩ : ∃ C, bsC L = C := ⟨_, rfl⟩
    have hp : 0 < C.size := by rw [← hC, bsC_size, show L = [83] by simpa using k7]; decide
    have hi : ((C[0]'hp).toNat : Int) = 83 := by
      subst hC
      exact bsC_0 (show L = [83] by simpa using k7) hp
    have i0 : (0 : Int) < (C.size : Int) := by omega
    have hfd : mapS downB C = ⟨#[115]⟩ := by
      rw [← hC, show L = [83] by simpa using k7]
      apply ByteArray.ext; apply Array.ext'
      decide
    have HFD := hide (fun W => fold_any C W (by rw [← hC]; exact HZ.out))
    rw [hfd] at HFD
    have HUP := hide (fun W => upp_m 83 (by decide) (by decide) W)
    rw [show uppZ 83 = true from by decide] at HUP
    have e1 : namR 115 = rS := rfl
    have e2 : namB 115 = true := rfl
    have hnm := fun W => namf_any 115 W
    rw [e1, e2] at hnm
    unfold NmfPost at hnm
    have HNM := hide hnm
    rw [hC] at u0 v0 u1 v1 u2 v2 u3 v3 u4 v4 u5 v5 u6 v6 u7 v7 HN
    clear hC k0 k1 k2 k3 k4 k5 k6 k7 hnm e1 e2 HZ hfd
    go_enter Tryz.func81, Tryz.ntmps81
    go_wp2_with fail
    refine (HN.out _).mono ?_
    rintro e w1 ⟨rfl, hm1⟩
    have hsz1 : w.heap.size < w1.heap.size := by have := hm1.fr; simp at this; omega
    have z0 : w1.cell? ⟨w.heap.size, 0, none⟩ = some (.int .i64 0) := hm1.cell (cells_lit w _ _ 0 _ rfl) HNB.out
    have z1 : w1.cell? ⟨w.heap.size, 1, none⟩ = some (.string ⟨#[]⟩) := hm1.cell (cells_lit w _ _ 1 _ rfl) HNB.out
    have z2 : w1.cell? ⟨w.heap.size, 2, none⟩ = some (.bool false) := hm1.cell (cells_lit w _ _ 2 _ rfl) HNB.out
    have z3 : w1.cell? ⟨w.heap.size, 3, none⟩ = some (.slice none 0 0) := hm1.cell (cells_lit w _ _ 3 _ rfl) HNB.out
    have z4 : w1.cell? ⟨w.heap.size, 4, none⟩ = some (.int .i64 0) := hm1.cell (cells_lit w _ _ 4 _ rfl) HNB.out
    have z5 : w1.cell? ⟨w.heap.size, 5, none⟩ = some (.int .i64 0) := hm1.cell (cells_lit w _ _ 5 _ rfl) HNB.out
    have z6 : w1.cell? ⟨w.heap.size, 6, none⟩ = some (.bool false) := hm1.cell (cells_lit w _ _ 6 _ rfl) HNB.out
    have z7 : w1.cell? ⟨w.heap.size, 7, none⟩ = some (.slice none 0 0) := hm1.cell (cells_lit w _ _ 7 _ rfl) HNB.out
    have hf1 : ∀ o, w1.frozen? ⟨w.heap.size, o, none⟩ = false := fun o => (hm1.frz (p := ⟨w.heap.size, o, none⟩) (by simp) HNB.out).trans (by go_simp)
    have M1 := hide ((HS.out.self (bl_alloc (bl_refl w) _)).trans hm1)
    clear hm1
    go_wp2_with fail
    refine (HFD.out _).mono ?_
    rintro e w2 ⟨rfl, hb2⟩
    have M2 := hide (M1.out.bl hb2)
    replace z0 := cell_later hb2 z0
    replace z1 := cell_later hb2 z1
    replace z2 := cell_later hb2 z2
    replace z3 := cell_later hb2 z3
    replace z4 := cell_later hb2 z4
    replace z5 := cell_later hb2 z5
    replace z6 := cell_later hb2 z6
    replace z7 := cell_later hb2 z7
    have hf2 : ∀ o, w2.frozen? ⟨w.heap.size, o, none⟩ = false := fun o => (hb2.frozen (p := ⟨w.heap.size, o, none⟩) hsz1).trans (hf1 o)
    have hsz2 : w.heap.size < w2.heap.size := Nat.lt_of_lt_of_le hsz1 hb2.size
    clear hb2 hf1
    go_wp2_with fail
    refine (HNM.out _).mono ?_
    rintro e w3 ⟨v, rfl, hb3, hrw, hfv⟩
    have M3 := hide (M2.out.bl hb3)
    replace z0 := cell_later hb3 z0
    replace z1 := cell_later hb3 z1
    replace z2 := cell_later hb3 z2
    replace z3 := cell_later hb3 z3
    replace z4 := cell_later hb3 z4
    replace z5 := cell_later hb3 z5
    replace z6 := cell_later hb3 z6
    replace z7 := cell_later hb3 z7
    have hf3 : ∀ o, w3.frozen? ⟨w.heap.size, o, none⟩ = false := fun o => (hb3.frozen (p := ⟨w.heap.size, o, none⟩) hsz2).trans (hf2 o)
    have HSZ2 := hide hsz2
    obtain ⟨vA, vc, rfl⟩ := rwat_len hrw
    have HRW := hide hrw
    have HFV := hide hfv
    clear hb3 hf2 hrw hfv
    go_wp2_with fail
    refine (HUP.out _).mono ?_
    rintro e w4 ⟨rfl, rfl⟩
    go_wp2
    refine bodyPost_ret (v := .tuple #[.agg #[.int .i64 4, .string ⟨#[]⟩, .bool true, .slice vA rS.length vc, .int .i64 0, .int .i64 0, .bool false, .slice none 0 0], .int .i64 0]) ?_ rfl ⟨.mk 4 ⟨#[]⟩ true (.slice vA rS.length vc) rS 0 0 false (.slice none 0 0) [], rfl, (mv8 M3.out HNB.out (Nat.le_refl _) _ _ _ _ _ _ _ _ _ _ _ _ _ _ _ _), ?_, ?_, ?_⟩
    · rw [results_cell2 rfl]
      go_simp
    · exact .mk _ (rwat_kept HRW.out HFV.out (kept8 _ HSZ2.out _ _ _ _ _ _ _ _ _ _ _ _ _ _ _ _)) (.inl ⟨rfl, rfl⟩) (fun i hi => absurd hi (Nat.not_lt_zero _))
    · exact .mk _ (FrV.mono HFV.out (Nat.le_of_lt HSZ2.out)) (frv0 _) (fun x hx => by cases hx)
    · rw [er_eq]; rfl
  rw [k7, if_neg (by decide)] at ho
  obtain ⟨u7, v7⟩ := lit_eq (bsC L) #[83] false (by rw [bsC_data]; exact k7)
  obtain ⟨z, hz⟩ : ∃ z, escP (bsC L) = z := ⟨_, rfl⟩
  rw [hz] at ho
  have HE := hide (fun W => escaped_any (bsC L) HZ.out z hz W)
  unfold EsPost at HE
  obtain ⟨C, hC⟩ : ∃ C, bsC L = C := ⟨_, rfl⟩
  rw [hC] at u0 v0 u1 v1 u2 v2 u3 v3 u4 v4 u5 v5 u6 v6 u7 v7 HN HE
  clear hC k0 k1 k2 k3 k4 k5 k6 k7 HZ hz
  rcases z with _ | z
  · simp only at ho
    subst ho
    simp only [Option.getD, Option.isSome] at HE
    go_enter Tryz.func81, Tryz.ntmps81
    go_wp2_with fail
    refine (HN.out _).mono ?_
    rintro e w1 ⟨rfl, hm1⟩
    have hsz1 : w.heap.size < w1.heap.size := by have := hm1.fr; simp at this; omega
    have z0 : w1.cell? ⟨w.heap.size, 0, none⟩ = some (.int .i64 0) := hm1.cell (cells_lit w _ _ 0 _ rfl) HNB.out
    have z1 : w1.cell? ⟨w.heap.size, 1, none⟩ = some (.string ⟨#[]⟩) := hm1.cell (cells_lit w _ _ 1 _ rfl) HNB.out
    have z2 : w1.cell? ⟨w.heap.size, 2, none⟩ = some (.bool false) := hm1.cell (cells_lit w _ _ 2 _ rfl) HNB.out
    have z3 : w1.cell? ⟨w.heap.size, 3, none⟩ = some (.slice none 0 0) := hm1.cell (cells_lit w _ _ 3 _ rfl) HNB.out
    have z4 : w1.cell? ⟨w.heap.size, 4, none⟩ = some (.int .i64 0) := hm1.cell (cells_lit w _ _ 4 _ rfl) HNB.out
    have z5 : w1.cell? ⟨w.heap.size, 5, none⟩ = some (.int .i64 0) := hm1.cell (cells_lit w _ _ 5 _ rfl) HNB.out
    have z6 : w1.cell? ⟨w.heap.size, 6, none⟩ = some (.bool false) := hm1.cell (cells_lit w _ _ 6 _ rfl) HNB.out
    have z7 : w1.cell? ⟨w.heap.size, 7, none⟩ = some (.slice none 0 0) := hm1.cell (cells_lit w _ _ 7 _ rfl) HNB.out
    have hf1 : ∀ o, w1.frozen? ⟨w.heap.size, o, none⟩ = false := fun o => (hm1.frz (p := ⟨w.heap.size, o, none⟩) (by simp) HNB.out).trans (by go_simp)
    have M1 := hide ((HS.out.self (bl_alloc (bl_refl w) _)).trans hm1)
    clear hm1
    go_wp2_with fail
    refine (HE.out _).mono ?_
    rintro e w3 ⟨rfl, rfl⟩
    go_wp2
    refine bodyPost_ret (v := .tuple #[.agg #[.int .i64 0, .string ⟨#[]⟩, .bool false, .slice none 0 0, .int .i64 0, .int .i64 0, .bool false, .slice none 0 0], .int .i64 10]) ?_ rfl ⟨rfl, _, (mv8 M1.out HNB.out (Nat.le_refl _) _ _ _ _ _ _ _ _ _ _ _ _ _ _ _ _)⟩
    rw [results_cell2 rfl]
    go_simp
  · simp only at ho
    subst ho
    simp only [Option.getD, Option.isSome] at HE
    go_enter Tryz.func81, Tryz.ntmps81
    go_wp2_with fail
    refine (HN.out _).mono ?_
    rintro e w1 ⟨rfl, hm1⟩
    have hsz1 : w.heap.size < w1.heap.size := by have := hm1.fr; simp at this; omega
    have z0 : w1.cell? ⟨w.heap.size, 0, none⟩ = some (.int .i64 0) := hm1.cell (cells_lit w _ _ 0 _ rfl) HNB.out
    have z1 : w1.cell? ⟨w.heap.size, 1, none⟩ = some (.string ⟨#[]⟩) := hm1.cell (cells_lit w _ _ 1 _ rfl) HNB.out
    have z2 : w1.cell? ⟨w.heap.size, 2, none⟩ = some (.bool false) := hm1.cell (cells_lit w _ _ 2 _ rfl) HNB.out
    have z3 : w1.cell? ⟨w.heap.size, 3, none⟩ = some (.slice none 0 0) := hm1.cell (cells_lit w _ _ 3 _ rfl) HNB.out
    have z4 : w1.cell? ⟨w.heap.size, 4, none⟩ = some (.int .i64 0) := hm1.cell (cells_lit w _ _ 4 _ rfl) HNB.out
    have z5 : w1.cell? ⟨w.heap.size, 5, none⟩ = some (.int .i64 0) := hm1.cell (cells_lit w _ _ 5 _ rfl) HNB.out
    have z6 : w1.cell? ⟨w.heap.size, 6, none⟩ = some (.bool false) := hm1.cell (cells_lit w _ _ 6 _ rfl) HNB.out
    have z7 : w1.cell? ⟨w.heap.size, 7, none⟩ = some (.slice none 0 0) := hm1.cell (cells_lit w _ _ 7 _ rfl) HNB.out
    have hf1 : ∀ o, w1.frozen? ⟨w.heap.size, o, none⟩ = false := fun o => (hm1.frz (p := ⟨w.heap.size, o, none⟩) (by simp) HNB.out).trans (by go_simp)
    have M1 := hide ((HS.out.self (bl_alloc (bl_refl w) _)).trans hm1)
    clear hm1
    go_wp2_with fail
    refine (HE.out _).mono ?_
    rintro e w3 ⟨rfl, rfl⟩
    go_wp2
    refine bodyPost_ret (v := .tuple #[.agg #[.int .i64 2, .string z, .bool false, .slice none 0 0, .int .i64 0, .int .i64 0, .bool false, .slice none 0 0], .int .i64 0]) ?_ rfl ⟨chX z, rfl, (mv8 M1.out HNB.out (Nat.le_refl _) _ _ _ _ _ _ _ _ _ _ _ _ _ _ _ _), rx_leaf _ _ rfl rfl rfl rfl, fr_leaf _ _ rfl rfl rfl, rfl⟩
    rw [results_cell2 rfl]
    go_simp
end
section
open Go.ChangeShapes Go.WideShapes Go.ChangeAt Go.RowKit
open SetM
attribute [local go_sem ↓] Go.wp_at_zero Go.wp_at_succ
attribute [local go_sem] later_cell later_frozen
set_option maxRecDepth 100000
set_option linter.unusedVariables false
def classP (l : List UInt8) : Res :=
  match clsP ((if (hdC l == [94]) = true then tlC l else l).length + 1) [] (if (hdC l == [94]) = true then tlC l else l) with
  | none => .err 10
  | some (rows, r) => .ok (setX (hdC l == [94]) (uniF (sortS (okU rows)))) r
theorem own_mv {w w' : World} {base size n b : Nat} {e : TypeId} {v : Value} {xs : List Value} {s : ByteArray} {l : List UInt8} (h : w.ownsRow base e size v n xs) (hm : Mv w w' b s l) (hb : b < base) : w'.ownsRow base e size v n xs := by
  refine h.kept hm.1.grown ?_
  rcases hv : v.ownBlock with _ | k
  · exact .inl rfl
  · refine .inr ?_
    have := (h.lt k hv).1
    intro e
    injection e with e
    omega
theorem rwat_src {w : World} {A : Option Addr} {c : Nat} {l : List Rw} (h : RwAt w (.slice A l.length c) l) : Src w 2 A l.length (flatR l) := by
  refine ⟨flatR_len l, ?_⟩
  rcases h with ⟨_, rfl⟩ | ⟨x, c', hv, _, _, hc⟩
  · exact .inl rfl
  · injection hv with hv _ _
    refine .inr ⟨x, hv, fun j u hu => ?_⟩
    have hj : j < l.length * 2 := by have := (List.getElem?_eq_some_iff.1 hu).1; rwa [flatR_len] at this
    have hq : j / 2 < l.length := by omega
    have h1 := flatR_at l (j / 2) hq
    have h2 := hc (j / 2) hq
    rcases Nat.mod_two_eq_zero_or_one j with hm | hm
    · rw [show j / 2 * 2 = j by omega] at h1 h2
      rw [hu] at h1
      rw [Option.some.inj h1.1]; exact h2.1
    · rw [show j / 2 * 2 + 1 = j by omega] at h1 h2
      rw [hu] at h1
      rw [Option.some.inj h1.2]; exact h2.2
theorem one_cellR (l : List Rw) : ∀ u ∈ flatR l, u.oneCell' = true := by
  intro u hu
  induction l with
  | nil => cases hu
  | cons a r ih =>
    simp only [flatR, encR, List.flatMap_cons, List.mem_append, List.mem_cons, List.not_mem_nil, or_false] at hu
    rcases hu with (rfl | rfl) | hu
    · rfl
    · rfl
    · exact ih hu
theorem own_frv {w : World} {base : Nat} {e : TypeId} {size : Nat} {v : Value} {n : Nat} {xs : List Value} (h : w.ownsRow base e size v n xs) : FrV base v := by
  rcases own_form h with ⟨rfl, _⟩ | ⟨g, c, rfl, h1, _⟩
  · exact frv0 _
  · intro x len c' e
    injection e with e; injection e with e; subst e; exact h1
theorem Mv.appendv {w w1 w2 : World} {b base size n : Nat} {e : TypeId} {v : Value} {xs : List Value} {s : ByteArray} {l : List UInt8} (h : Mv w w1 b s l) (ho : w1.ownsRow base e size v n xs) (hg : w1.grownBy w2 v.ownBlock) (hb : b < base) (hw : w.heap.size ≤ base) : Mv w w2 b s l := by
  rcases hv : v.ownBlock with _ | g
  · rw [hv] at hg
    exact h.bl (bl_grown (bl_refl _) hg (fun k hk => by cases hk))
  · rw [hv] at hg
    have := (ho.lt g hv).1
    exact h.append hg (by omega) (by omega)
def posOf (w : World) (b : Nat) : Nat := match w.cell? ⟨b, 1, none⟩ with | some v => (intOf v).toNat | none => 0
theorem posOf_mv {w w' : World} {b : Nat} {s : ByteArray} {l : List UInt8} (h : Mv w w' b s l) : posOf w' b = s.size - l.length := by
  unfold posOf
  have := h.1.pos
  simp only [Nat.zero_add] at this
  rw [this]
  simp [intOf]
set_option maxHeartbeats 16000000 in
theorem class_any {w : World} {b : Nat} {s : ByteArray} {l : List UInt8} (h : Pl w b s l) (hs : s.size ≤ 256) (res : Res) (ho : classP l = res) :
    Calls Tryz.prog 80 #[.pointer (some ⟨b, 0, none⟩)] w (TrPost w b s res) := by
  obtain ⟨i0, hi0, hz0', hz1, hz2⟩ := info_parts info_rw
  have hbw : b < w.heap.size := World.block_lt_of_cell? _ _ h.mem.1
  have HS := hide h
  have HNB := hide (show w.heap.size ≠ b by omega)
  have HBW := hide hbw
  have HLE := hide h.le
  have HS6 := hide hs
  unfold classP at ho
  obtain ⟨nt, hnt⟩ : ∃ q, (hdC l == [94]) = q := ⟨_, rfl⟩
  have HT0 := hide (fun o => pos_take (h.bl (bl_alloc (bl_refl w) o)) ⟨#[94]⟩ nt hnt)
  rw [hnt] at ho
  have hl0 : (if nt = true then tlC l else l).length ≤ l.length := by split; exact tl_le l; exact Nat.le_refl _
  obtain ⟨l0, hl0'⟩ : ∃ l0, (if nt = true then tlC l else l) = l0 := ⟨_, rfl⟩
  rw [hl0'] at ho hl0 HT0
  obtain ⟨o, hoo⟩ : ∃ o, clsP (l0.length + 1) [] l0 = o := ⟨_, rfl⟩
  rw [hoo] at ho
  have HR1 := hide (show ∀ rows r, o = some (rows, r) → ∀ e w', TrPost w b s (.ok (setX nt (uniF (sortS (okU rows)))) r) e w' → TrPost w b s res e w' from fun rows r h e w' ht => by rw [h] at ho; rw [← ho]; exact ht)
  have HR0 := hide (show o = none → ∀ e w', TrPost w b s (.err 10) e w' → TrPost w b s res e w' from fun h e w' ht => by rw [h] at ho; rw [← ho]; exact ht)
  have HO0 := hide hoo
  have HL0 := hide (show ([] : List Rw).length + 2 * l0.length ≤ 512 by simp only [List.length_nil]; have := h.le; omega)
  clear h hnt hl0' hoo ho hs
  go_enter Tryz.func80, Tryz.ntmps80
  go_wp2_with fail
  refine (HT0.out _).mono ?_
  rintro e w1 ⟨rfl, hm1⟩
  have HM1 := hide hm1
  have hsz1 : w.heap.size + 1 ≤ w1.heap.size := by have := hm1.fr; simpa using this
  clear hm1
  go_wp2
  go_loopw [5] (fun v wr => ∃ (acc : List Rw) (l1 : List UInt8) (f : Nat) (A : Option Addr) (c : Nat), v = .slice A acc.length c ∧ Hid (wr.ownsRow (w.heap.size + 1) 94 2 (.slice A acc.length c) acc.length (flatR acc)) ∧ Hid (Mv (w.alloc (.cells #[.int .i64 0, .string ⟨#[]⟩, .bool false, .slice none 0 0, .int .i64 0, .int .i64 0, .bool false, .slice none 0 0] 25)) wr b s l1) ∧ Hid (clsP f acc l1 = o) ∧ l1.length < f ∧ acc.length + 2 * l1.length ≤ 512 ∧ Hid (∀ x ∈ acc, Short x)) (fun _ wr => s.size - posOf wr b)
  case atStart => exact ⟨[], l0, l0.length + 1, none, 0, rfl, hide ⟨rfl, .inl ⟨rfl, rfl⟩⟩, HM1, HO0, Nat.lt_succ_self _, HL0.out, hide (fun x hx => by cases hx)⟩
  case round =>
    obtain ⟨acc, l1, f, A, c, rfl, HROW, HM, HO, hf, hal, HSH⟩ := hrel
    obtain ⟨f, rfl⟩ : ∃ g, f = g + 1 := ⟨f - 1, by omega⟩
    have HP0 := hide (show Pl (w.alloc (.cells #[.int .i64 0, .string ⟨#[]⟩, .bool false, .slice none 0 0, .int .i64 0, .int .i64 0, .bool false, .slice none 0 0] 25)) b s l from HS.out.bl (bl_alloc (bl_refl w) _))
    have HPL := hide (HM.out.pl HP0.out)
    obtain ⟨q, hq⟩ : ∃ q, (hdC l1 == [93]) = q := ⟨_, rfl⟩
    have HT := hide (pos_take HPL.out ⟨#[93]⟩ q hq)
    have ho2 := HO.out
    rw [clsP, hq] at ho2
    clear hq
    cases q
    · rw [if_neg (by decide)] at ho2
      obtain ⟨o1, ho1⟩ : ∃ o1, rowsP l1 = o1 := ⟨_, rfl⟩
      have hrw := fun W (hp : Pl W b s l1) => rows_par hp o1 ho1
      unfold RwsPost at hrw
      rw [ho1] at ho2
      rcases o1 with _ | ⟨L, r⟩
      · simp only [Option.isSome] at hrw
        have HRW := hide hrw
        have HE := hide (HR0.out ho2.symm)
        clear hrw ho1 ho2
        go_wp2_with fail
        refine HT.out.mono ?_
        rintro e w2 ⟨rfl, hm2⟩
        have M2 := hide (HM.out.trans hm2)
        clear hm2
        go_wp2_with fail
        refine (HRW.out _ (M2.out.pl HP0.out)).mono ?_
        rintro e w3 ⟨v, r, rfl, hm3, hfv, _⟩
        have hm3' := M2.out.trans hm3
        have hsz3 : w.heap.size < w3.heap.size := by have := hm3'.fr; simp at this; omega
        have z0 : w3.cell? ⟨w.heap.size, 0, none⟩ = some (.int .i64 0) := hm3'.cell (cells_lit w _ _ 0 _ rfl) HNB.out
        have z1 : w3.cell? ⟨w.heap.size, 1, none⟩ = some (.string ⟨#[]⟩) := hm3'.cell (cells_lit w _ _ 1 _ rfl) HNB.out
        have z2 : w3.cell? ⟨w.heap.size, 2, none⟩ = some (.bool false) := hm3'.cell (cells_lit w _ _ 2 _ rfl) HNB.out
        have z3 : w3.cell? ⟨w.heap.size, 3, none⟩ = some (.slice none 0 0) := hm3'.cell (cells_lit w _ _ 3 _ rfl) HNB.out
        have z4 : w3.cell? ⟨w.heap.size, 4, none⟩ = some (.int .i64 0) := hm3'.cell (cells_lit w _ _ 4 _ rfl) HNB.out
        have z5 : w3.cell? ⟨w.heap.size, 5, none⟩ = some (.int .i64 0) := hm3'.cell (cells_lit w _ _ 5 _ rfl) HNB.out
        have z6 : w3.cell? ⟨w.heap.size, 6, none⟩ = some (.bool false) := hm3'.cell (cells_lit w _ _ 6 _ rfl) HNB.out
        have z7 : w3.cell? ⟨w.heap.size, 7, none⟩ = some (.slice none 0 0) := hm3'.cell (cells_lit w _ _ 7 _ rfl) HNB.out
        have hf3 : ∀ o, w3.frozen? ⟨w.heap.size, o, none⟩ = false := fun o => (hm3'.frz (p := ⟨w.heap.size, o, none⟩) (by simp) HNB.out).trans (by go_simp)
        have M3 := hide ((HS.out.self (bl_alloc (bl_refl w) _)).trans hm3')
        clear hm3 hm3' hfv
        go_wp2
        refine bodyPost_ret (v := .tuple #[.agg #[.int .i64 0, .string ⟨#[]⟩, .bool false, .slice none 0 0, .int .i64 0, .int .i64 0, .bool false, .slice none 0 0], .int .i64 10]) ?_ rfl (HE.out _ _ ⟨rfl, _, (mv8 M3.out HNB.out (Nat.le_refl _) _ _ _ _ _ _ _ _ _ _ _ _ _ _ _ _)⟩)
        rw [results_cell2 rfl]
        go_simp
      · simp only [Option.isSome] at hrw
        simp only at ho2
        have HRW := hide hrw
        obtain ⟨rk1, rk2, rk3⟩ := rowsP_ok ho1
        have HO3 := hide ho2
        have hle1 := HPL.out.le
        have HSHL := hide (show ∀ x ∈ acc ++ L, Short x from fun x hx => by
          rcases List.mem_append.1 hx with hx | hx
          · exact HSH.out x hx
          · have := rk3 x hx
            have := HS6.out
            exact ⟨by omega, by omega⟩)
        have hal2 : (acc ++ L).length + 2 * r.length ≤ 512 := by rw [List.length_append]; omega
        have hLL : L.length ≤ 512 := by omega
        have hAL : acc.length ≤ 512 := by omega
        have HRK := hide (show r.length < l1.length ∧ l1.length ≤ s.size from ⟨rk1, hle1⟩)
        have HAL2 := hide hal2
        clear hrw ho1 ho2 rk1 rk2 rk3 hle1 hal2 hal
        go_wp2_with fail
        refine HT.out.mono ?_
        rintro e w2 ⟨rfl, hm2⟩
        have M2 := hide (HM.out.trans hm2)
        have HROW2 := hide (own_mv HROW.out hm2 (Nat.lt_succ_of_lt HBW.out))
        clear hm2
        go_wp2_with fail
        refine (HRW.out _ (M2.out.pl HP0.out)).mono ?_
        rintro e w3 ⟨v, r, rfl, hm3, hfv, hx⟩
        obtain ⟨hrw3, rfl⟩ := hx _ rfl
        simp only at hrw3
        clear hx
        have M3 := hide (M2.out.trans hm3)
        have HROW3 := hide (own_mv HROW2.out hm3 (Nat.lt_succ_of_lt HBW.out))
        obtain ⟨vA, vc, rfl⟩ := rwat_len hrw3
        have HSRC := hide (rwat_src hrw3)
        have hb3 : w.heap.size + 1 ≤ w3.heap.size := by have := M3.out.fr; simpa using this
        have HB3 := hide hb3
        clear hm3 hfv hrw3 hb3
        go_wp2_with (at_builtin; go_must (refine wpList_src _ rfl _ _ 22 rfl (w.heap.size + 1) 94 i0 (.agg #[.string ⟨#[]⟩, .string ⟨#[]⟩]) 2 32 Tryz.underlying22 hi0 hz0' hz1 hz2 rfl (by decide) (.slice A acc.length c) acc.length (flatR acc) rfl HROW3.out vA L.length vc (flatR L) rfl HSRC.out (one_cellR L) (by omega) (by decide) HB3.out ?_); rintro v' w4 hv4 hg4)
        have hm4 := M3.out.appendv HROW3.out hg4 (Nat.lt_succ_of_lt HBW.out) (by simp)
        have HM4 := hide hm4
        obtain ⟨A', c', rfl⟩ := own_slice hv4
        have HROW4 := hide (show w4.ownsRow (w.heap.size + 1) 94 2 (.slice A' (acc ++ L).length c') (acc ++ L).length (flatR (acc ++ L)) by
          rw [List.length_append, show flatR (acc ++ L) = flatR acc ++ flatR L from List.flatMap_append]; exact hv4)
        have HLEN := hide (show Value.slice A' (acc.length + L.length) c' = .slice A' (acc ++ L).length c' by rw [List.length_append])
        have HFL := hide (show r.length < f by have := HRK.out; omega)
        have HMS := hide (show s.size - posOf w4 b < s.size - posOf wr b by rw [posOf_mv hm4, posOf_mv HM.out]; have := HRK.out; omega)
        clear hv4 hg4 hm4
        go_wp2
        refine ⟨?_, HMS.out⟩
        first
          | exact ⟨acc ++ L, r, f, A', c', HLEN.out, HROW4, HM4, HO3, HFL.out, HAL2.out, HSHL⟩
          | ((repeat apply Exists.intro); exact ⟨⟨acc ++ L, r, f, A', c', HLEN.out, HROW4, HM4, HO3, HFL.out, HAL2.out, HSHL⟩, rfl⟩)
    · rw [if_pos rfl] at ho2
      have HE := hide (HR1.out acc (tlC l1) ho2.symm)
      obtain ⟨U, hU⟩ : ∃ U, uniF (sortS (okU acc)) = U := ⟨_, rfl⟩
      have HUN := hide (fun W (h : RwAt W (.slice A acc.length c) acc) => union_any _ acc W h (by omega) HSH.out)
      rw [hU] at HE HUN
      clear ho2 hU
      go_wp2_with fail
      refine HT.out.mono ?_
      rintro e w2 ⟨rfl, hm2⟩
      have M2 : Hid (Mv (w.alloc (.cells #[.int .i64 0, .string ⟨#[]⟩, .bool false, .slice none 0 0, .int .i64 0, .int .i64 0, .bool false, .slice none 0 0] 25)) w2 b s (tlC l1)) := hide (HM.out.trans hm2)
      have hrw2 := own_rwat (own_mv HROW.out hm2 (Nat.lt_succ_of_lt HBW.out))
      have HRW2 := hide hrw2
      clear hm2 hrw2
      go_wp2_with fail
      refine (HUN.out _ HRW2.out).mono ?_
      rintro e w3 ⟨v', rfl, hb3, hown⟩
      have hm3' := M2.out.bl hb3
      have hsz2 : w.heap.size < w2.heap.size := by have := M2.out.fr; simp at this; omega
      have z0 : w3.cell? ⟨w.heap.size, 0, none⟩ = some (.int .i64 0) := hm3'.cell (cells_lit w _ _ 0 _ rfl) HNB.out
      have z1 : w3.cell? ⟨w.heap.size, 1, none⟩ = some (.string ⟨#[]⟩) := hm3'.cell (cells_lit w _ _ 1 _ rfl) HNB.out
      have z2 : w3.cell? ⟨w.heap.size, 2, none⟩ = some (.bool false) := hm3'.cell (cells_lit w _ _ 2 _ rfl) HNB.out
      have z3 : w3.cell? ⟨w.heap.size, 3, none⟩ = some (.slice none 0 0) := hm3'.cell (cells_lit w _ _ 3 _ rfl) HNB.out
      have z4 : w3.cell? ⟨w.heap.size, 4, none⟩ = some (.int .i64 0) := hm3'.cell (cells_lit w _ _ 4 _ rfl) HNB.out
      have z5 : w3.cell? ⟨w.heap.size, 5, none⟩ = some (.int .i64 0) := hm3'.cell (cells_lit w _ _ 5 _ rfl) HNB.out
      have z6 : w3.cell? ⟨w.heap.size, 6, none⟩ = some (.bool false) := hm3'.cell (cells_lit w _ _ 6 _ rfl) HNB.out
      have z7 : w3.cell? ⟨w.heap.size, 7, none⟩ = some (.slice none 0 0) := hm3'.cell (cells_lit w _ _ 7 _ rfl) HNB.out
      have hf3 : ∀ o, w3.frozen? ⟨w.heap.size, o, none⟩ = false := fun o => (hm3'.frz (p := ⟨w.heap.size, o, none⟩) (by simp) HNB.out).trans (by go_simp)
      have hsz3 : w.heap.size < w3.heap.size := Nat.lt_of_lt_of_le hsz2 hb3.size
      have hrwU := own_rwat hown
      have hfvU := own_frv hown
      obtain ⟨uA, uc, rfl⟩ := rwat_len hrwU
      have HRU := hide hrwU
      have HFU := hide hfvU
      have HSZ2 := hide hsz2
      have M3 := hide ((HS.out.self (bl_alloc (bl_refl w) _)).trans hm3')
      clear hb3 hown hm3' hrwU hfvU hsz2
      go_wp2
      refine bodyPost_ret (v := .tuple #[.agg #[.int .i64 4, .string ⟨#[]⟩, .bool nt, .slice uA U.length uc, .int .i64 0, .int .i64 0, .bool false, .slice none 0 0], .int .i64 0]) ?_ rfl (HE.out _ _ ⟨.mk 4 ⟨#[]⟩ nt (.slice uA U.length uc) U 0 0 false (.slice none 0 0) [], rfl, (mv8 M3.out HNB.out (Nat.le_refl _) _ _ _ _ _ _ _ _ _ _ _ _ _ _ _ _), ?_, ?_, ?_⟩)
      · rw [results_cell2 rfl]
        go_simp
      · exact .mk _ (rwat_kept HRU.out HFU.out (kept8 _ HSZ2.out _ _ _ _ _ _ _ _ _ _ _ _ _ _ _ _)) (.inl ⟨rfl, rfl⟩) (fun i hi => absurd hi (Nat.not_lt_zero _))
      · exact .mk _ (FrV.mono HFU.out (Nat.le_of_lt HSZ2.out)) (frv0 _) (fun x hx => by cases hx)
      · rw [er_eq]; rfl
end
section
open Go.ChangeShapes Go.WideShapes Go.ChangeAt Go.RowKit
open SetM
attribute [local go_sem ↓] Go.wp_at_zero Go.wp_at_succ
attribute [local go_sem] later_cell later_frozen
set_option maxRecDepth 100000
set_option linter.unusedVariables false
def repX (mi ma : Int) (lz : Bool) (x : Rt) : Rt := .mk 7 ⟨#[]⟩ false (.slice none 0 0) [] mi ma lz (.slice none 0 0) [x]
def lazP (mi ma : Int) (x : Rt) (r : List UInt8) : Res := .ok (repX mi ma (hdC r == [63]) x) (if (hdC r == [63]) = true then tlC r else r)
def qntP (x : Rt) (l : List UInt8) : Res :=
  if (hdC l == [42]) = true then lazP 0 (-1) x (tlC l) else if (hdC l == [43]) = true then lazP 1 (-1) x (tlC l) else if (hdC l == [63]) = true then lazP 0 1 x (tlC l)
  else if (hdC l == [123]) = true then (match bndP (tlC l) with | none => .err 10 | some (n, m, r) => lazP n m x r)
  else .ok x l
def TrPostN (N : Nat) (w : World) (b : Nat) (s : ByteArray) : Res → Ending → World → Prop
  | .no, _, _ => False
  | .err n, e, w' => e = .returned (.tuple #[rt0.v, .int .i64 n]) ∧ ∃ r, Mv w w' b s r
  | .ok x r, e, w' => ∃ t, e = .returned (.tuple #[t.v, .int .i64 0]) ∧ Mv w w' b s r ∧ RxAt w' t ∧ Fr N t ∧ er t = x
theorem mv_kept {w w' : World} {b N : Nat} {s : ByteArray} {l : List UInt8} (h : Mv w w' b s l) (hb : b < N) : Kept N w w' := fun p v hp hc => h.cell hc (by omega)
theorem ks1 {W : World} {g : Nat} {t : Rt} (h : ∀ j u, t.cs[j]? = some u → W.cell? ⟨g, j, none⟩ = some u) : KsAt W (.slice (some ⟨g, 0, none⟩) 1 1) [t] := by
  refine .inr ⟨_, 1, rfl, by simp, by simp [maxLen], fun i hi j u hu => ?_⟩
  have : i = 0 := by simp at hi; omega
  subst this
  rw [addr_add]
  simp only [Nat.zero_mul, Nat.zero_add, List.getElem_cons_zero] at hu ⊢
  exact h j u hu
theorem set_blk {W : World} {n g o j : Nat} {u v : Value} (h : W.cell? ⟨n, j, none⟩ = some u) (hn : g ≠ n) : (W.setCell ⟨g, o, none⟩ v).cell? ⟨n, j, none⟩ = some u := by
  rw [World.cell?_setCell_other _ _ _ _ (fun e => hn (by injection e))]; exact h
theorem alloc_blk {W : World} {n j : Nat} {u : Value} {o : Obj} (h : W.cell? ⟨n, j, none⟩ = some u) : (W.alloc o).cell? ⟨n, j, none⟩ = some u := cell_later (bl_alloc (bl_refl W) o) h
theorem drew_blk {W : World} {n j : Nat} {u : Value} (h : W.cell? ⟨n, j, none⟩ = some u) : W.drew.cell? ⟨n, j, none⟩ = some u := cell_later (bl_drew (bl_refl W)) h
theorem ks_alloc {W : World} {g : Nat} {cs : List Value} {T : TypeId} (hg : W.heap.size = g) : ∀ j u, cs[j]? = some u → (W.alloc (.cells cs.toArray T)).cell? ⟨g, j, none⟩ = some u := by
  subst hg
  intro j u hu
  have := cells_lit W cs.toArray T j u (by simpa using hu)
  rw [addr_add, Nat.zero_add] at this
  exact this
theorem rep_end {N : Nat} {w W : World} {b g : Nat} {s : ByteArray} {r : List UInt8} {t : Rt} {mi ma : Int} {lz : Bool} (hm : Mv w W b s r) (hb : b < N) (hN : N ≤ w.heap.size) (ht : RxAt w t) (hf : Fr N t) (hg : N ≤ g) (hc : ∀ j u, t.cs[j]? = some u → W.cell? ⟨g, j, none⟩ = some u) :
    TrPostN N w b s (.ok (repX mi ma lz (er t)) r) (.returned (.tuple #[.agg #[.int .i64 7, .string ⟨#[]⟩, .bool false, .slice none 0 0, .int .i64 mi, .int .i64 ma, .bool lz, .slice (some ⟨g, 0, none⟩) 1 1], .int .i64 0])) W := by
  refine ⟨.mk 7 ⟨#[]⟩ false (.slice none 0 0) [] mi ma lz (.slice (some ⟨g, 0, none⟩) 1 1) [t], rfl, hm, .mk _ (.inl ⟨rfl, rfl⟩) (ks1 hc) (fun i hi => ?_), .mk _ (frv0 _) (fun x len c e => ?_) (fun x hx => ?_), ?_⟩
  · have : i = 0 := by have : i < 1 := hi; omega
    subst this
    exact rx_kept ht hf (mv_kept hm hb)
  · injection e with e; injection e with e; subst e; exact hg
  · have : x = t := by simpa using (show x ∈ [t] from hx)
    subst this; exact hf
  · rw [er_eq]; rfl
set_option maxHeartbeats 16000000 in
theorem quantified_any {w : World} {b N : Nat} {s : ByteArray} {l : List UInt8} (h : Pl w b s l) (hbN : b < N) (hN : N ≤ w.heap.size) (t : Rt) (ht : RxAt w t) (hf : Fr N t) (res : Res) (ho : qntP (er t) l = res) :
    Calls Tryz.prog 66 #[.pointer (some ⟨b, 0, none⟩), t.v] w (TrPostN N w b s res) := by
  obtain ⟨tA, tc, htrv⟩ := rwat_len ht.rows
  obtain ⟨tB, td, htkv⟩ := ksat_len ht.ks
  have HCS := hide (show t.cs = [.int .i64 t.k, .string t.ch, .bool t.nt, .slice tA t.rows.length tc, .int .i64 t.mi, .int .i64 t.ma, .bool t.lz, .slice tB t.kids.length td] by unfold Rt.cs; rw [htrv, htkv])
  rw [show t.v = .agg #[.int .i64 t.k, .string t.ch, .bool t.nt, .slice tA t.rows.length tc, .int .i64 t.mi, .int .i64 t.ma, .bool t.lz, .slice tB t.kids.length td] by unfold Rt.v Rt.cs; rw [htrv, htkv]]
  have HS := hide h
  have HBN := hide hbN
  have HN := hide hN
  have HT := hide ht
  have HF := hide hf
  have HP0 := hide (show Pl ((w.alloc (.cells #[.int .i64 t.k, .string t.ch, .bool t.nt, .slice tA t.rows.length tc, .int .i64 t.mi, .int .i64 t.ma, .bool t.lz, .slice tB t.kids.length td] 25)).alloc (.cells #[.int .i64 0, .string ⟨#[]⟩, .bool false, .slice none 0 0, .int .i64 0, .int .i64 0, .bool false, .slice none 0 0] 25)) b s l from h.bl (bl_alloc (bl_alloc (bl_refl w) _) _))
  have HX0 := hide (show ∀ j u, ([.int .i64 t.k, .string t.ch, .bool t.nt, .slice tA t.rows.length tc, .int .i64 t.mi, .int .i64 t.ma, .bool t.lz, .slice tB t.kids.length td] : List Value)[j]? = some u → ((w.alloc (.cells #[.int .i64 t.k, .string t.ch, .bool t.nt, .slice tA t.rows.length tc, .int .i64 t.mi, .int .i64 t.ma, .bool t.lz, .slice tB t.kids.length td] 25)).alloc (.cells #[.int .i64 0, .string ⟨#[]⟩, .bool false, .slice none 0 0, .int .i64 0, .int .i64 0, .bool false, .slice none 0 0] 25)).cell? ⟨w.heap.size, j, none⟩ = some u from fun j u hu => by
    have := cell_later (bl_alloc (bl_refl (w.alloc (.cells #[.int .i64 t.k, .string t.ch, .bool t.nt, .slice tA t.rows.length tc, .int .i64 t.mi, .int .i64 t.ma, .bool t.lz, .slice tB t.kids.length td] 25))) (.cells #[.int .i64 0, .string ⟨#[]⟩, .bool false, .slice none 0 0, .int .i64 0, .int .i64 0, .bool false, .slice none 0 0] 25)) (cells_lit w #[.int .i64 t.k, .string t.ch, .bool t.nt, .slice tA t.rows.length tc, .int .i64 t.mi, .int .i64 t.ma, .bool t.lz, .slice tB t.kids.length td] 25 j u hu)
    rw [addr_add, Nat.zero_add] at this
    exact this)
  have HZ0 := hide (show ∀ j u, ([.int .i64 0, .string ⟨#[]⟩, .bool false, .slice none 0 0, .int .i64 0, .int .i64 0, .bool false, .slice none 0 0] : List Value)[j]? = some u → ((w.alloc (.cells #[.int .i64 t.k, .string t.ch, .bool t.nt, .slice tA t.rows.length tc, .int .i64 t.mi, .int .i64 t.ma, .bool t.lz, .slice tB t.kids.length td] 25)).alloc (.cells #[.int .i64 0, .string ⟨#[]⟩, .bool false, .slice none 0 0, .int .i64 0, .int .i64 0, .bool false, .slice none 0 0] 25)).cell? ⟨w.heap.size + 1, j, none⟩ = some u from fun j u hu => by
    have := cells_lit (w.alloc (.cells #[.int .i64 t.k, .string t.ch, .bool t.nt, .slice tA t.rows.length tc, .int .i64 t.mi, .int .i64 t.ma, .bool t.lz, .slice tB t.kids.length td] 25)) #[.int .i64 0, .string ⟨#[]⟩, .bool false, .slice none 0 0, .int .i64 0, .int .i64 0, .bool false, .slice none 0 0] 25 j u hu
    rw [addr_add, Nat.zero_add] at this
    simpa using this)
  have HFZ0 := hide (show ∀ j, ((w.alloc (.cells #[.int .i64 t.k, .string t.ch, .bool t.nt, .slice tA t.rows.length tc, .int .i64 t.mi, .int .i64 t.ma, .bool t.lz, .slice tB t.kids.length td] 25)).alloc (.cells #[.int .i64 0, .string ⟨#[]⟩, .bool false, .slice none 0 0, .int .i64 0, .int .i64 0, .bool false, .slice none 0 0] 25)).frozen? ⟨w.heap.size + 1, j, none⟩ = false from fun j => by go_simp)
  have HNB := hide (show w.heap.size ≠ b from by have := World.block_lt_of_cell? _ _ HS.out.mem.1; simp only at this; omega)
  have HNB1 := hide (show w.heap.size + 1 ≠ b from by have := World.block_lt_of_cell? _ _ HS.out.mem.1; simp only at this; omega)
  have HSZ0 := hide (show w.heap.size + 1 < ((w.alloc (.cells #[.int .i64 t.k, .string t.ch, .bool t.nt, .slice tA t.rows.length tc, .int .i64 t.mi, .int .i64 t.ma, .bool t.lz, .slice tB t.kids.length td] 25)).alloc (.cells #[.int .i64 0, .string ⟨#[]⟩, .bool false, .slice none 0 0, .int .i64 0, .int .i64 0, .bool false, .slice none 0 0] 25)).heap.size by simp)
  have HTV := hide (show t.v = .agg #[.int .i64 t.k, .string t.ch, .bool t.nt, .slice tA t.rows.length tc, .int .i64 t.mi, .int .i64 t.ma, .bool t.lz, .slice tB t.kids.length td] by unfold Rt.v Rt.cs; rw [htrv, htkv])
  unfold qntP at ho
  clear h hbN hN ht hf htrv htkv
  rcases hq0 : (hdC l == [42]) with _ | _
  rotate_left
  · rw [hq0, if_pos rfl] at ho
    obtain ⟨r0, hr0⟩ : ∃ r0, tlC l = r0 := ⟨_, rfl⟩
    have HTT : Hid (∀ W, Pl W b s l → Calls Tryz.prog 22 #[.pointer (some ⟨b, 0, none⟩), .string ⟨#[42]⟩] W fun e w' => e = .returned (.bool true) ∧ Mv W w' b s r0) := hide (fun W hp => by rw [← hr0]; exact pos_take hp ⟨#[42]⟩ true hq0)
    rw [hr0] at ho
    clear hr0 hq0
    obtain ⟨r, rfl⟩ : ∃ r, r = r0 := ⟨_, rfl⟩
    unfold lazP at ho
    obtain ⟨lz, hlz⟩ : ∃ q, (hdC r == [63]) = q := ⟨_, rfl⟩
    have HTQ := hide (fun W (hp : Pl W b s r) => pos_take hp ⟨#[63]⟩ lz hlz)
    rw [hlz] at ho
    obtain ⟨r2, hr2⟩ : ∃ r2, (if lz = true then tlC r else r) = r2 := ⟨_, rfl⟩
    rw [hr2] at ho HTQ
    subst ho
    clear hlz hr2
    go_enter Tryz.func66, Tryz.ntmps66
    go_wp2_with fail
    refine (HTT.out _ HP0.out).mono ?_
    rintro e w2 ⟨rfl, hm⟩
    have M2 : Hid (Mv ((w.alloc (.cells #[.int .i64 t.k, .string t.ch, .bool t.nt, .slice tA t.rows.length tc, .int .i64 t.mi, .int .i64 t.ma, .bool t.lz, .slice tB t.kids.length td] 25)).alloc (.cells #[.int .i64 0, .string ⟨#[]⟩, .bool false, .slice none 0 0, .int .i64 0, .int .i64 0, .bool false, .slice none 0 0] 25)) w2 b s r) := hide hm
    clear hm
    have HP2 := hide (M2.out.pl HP0.out)
    have x0 : w2.cell? ⟨w.heap.size, 0, none⟩ = some (.int .i64 t.k) := M2.out.cell (HX0.out 0 _ rfl) HNB.out
    have x1 : w2.cell? ⟨w.heap.size, 1, none⟩ = some (.string t.ch) := M2.out.cell (HX0.out 1 _ rfl) HNB.out
    have x2 : w2.cell? ⟨w.heap.size, 2, none⟩ = some (.bool t.nt) := M2.out.cell (HX0.out 2 _ rfl) HNB.out
    have x3 : w2.cell? ⟨w.heap.size, 3, none⟩ = some (.slice tA t.rows.length tc) := M2.out.cell (HX0.out 3 _ rfl) HNB.out
    have x4 : w2.cell? ⟨w.heap.size, 4, none⟩ = some (.int .i64 t.mi) := M2.out.cell (HX0.out 4 _ rfl) HNB.out
    have x5 : w2.cell? ⟨w.heap.size, 5, none⟩ = some (.int .i64 t.ma) := M2.out.cell (HX0.out 5 _ rfl) HNB.out
    have x6 : w2.cell? ⟨w.heap.size, 6, none⟩ = some (.bool t.lz) := M2.out.cell (HX0.out 6 _ rfl) HNB.out
    have x7 : w2.cell? ⟨w.heap.size, 7, none⟩ = some (.slice tB t.kids.length td) := M2.out.cell (HX0.out 7 _ rfl) HNB.out
    have HSZ2 := hide (show w.heap.size + 2 ≤ w2.heap.size by have := M2.out.fr; simpa using this)
    have HNE2 := hide (show w2.heap.size ≠ b by have := M2.out.fr; have h2 : b < w.heap.size := World.block_lt_of_cell? _ _ HS.out.mem.1; simp at this; omega)
    go_wp2_with fail
    go_must (go_region_held3 (fun W => W.cell? ⟨w.heap.size, 0, none⟩ = some (.int .i64 t.k) ∧ W.cell? ⟨w.heap.size, 1, none⟩ = some (.string t.ch) ∧ W.cell? ⟨w.heap.size, 2, none⟩ = some (.bool t.nt) ∧ W.cell? ⟨w.heap.size, 3, none⟩ = some (.slice tA t.rows.length tc) ∧ W.cell? ⟨w.heap.size, 4, none⟩ = some (.int .i64 t.mi) ∧ W.cell? ⟨w.heap.size, 5, none⟩ = some (.int .i64 t.ma) ∧ W.cell? ⟨w.heap.size, 6, none⟩ = some (.bool t.lz) ∧ W.cell? ⟨w.heap.size, 7, none⟩ = some (.slice tB t.kids.length td)) (first | (refine ⟨?_, ?_, ?_, ?_, ?_, ?_, ?_, ?_⟩ <;> (repeat (first | with_reducible assumption | with_reducible refine set_blk ?_ (Nat.succ_ne_self _) | with_reducible refine alloc_blk ?_ | with_reducible refine drew_blk ?_)); done) | go_keep) (first
      | (go_at_call 22; refine (HTQ.out _ (HP2.out.bl (by repeat (first | exact bl_refl _ | refine bl_drew ?_ | refine bl_alloc ?_ _)))).mono ?_; rintro e w3 ⟨rfl, hm3⟩; have hmm := (M2.out.bl (by repeat (first | exact bl_refl _ | refine bl_drew ?_ | refine bl_alloc ?_ _))).trans hm3; have x0 : w3.cell? ⟨w.heap.size, 0, none⟩ = some (.int .i64 t.k) := hmm.cell (HX0.out 0 _ rfl) HNB.out; have x1 : w3.cell? ⟨w.heap.size, 1, none⟩ = some (.string t.ch) := hmm.cell (HX0.out 1 _ rfl) HNB.out; have x2 : w3.cell? ⟨w.heap.size, 2, none⟩ = some (.bool t.nt) := hmm.cell (HX0.out 2 _ rfl) HNB.out; have x3 : w3.cell? ⟨w.heap.size, 3, none⟩ = some (.slice tA t.rows.length tc) := hmm.cell (HX0.out 3 _ rfl) HNB.out; have x4 : w3.cell? ⟨w.heap.size, 4, none⟩ = some (.int .i64 t.mi) := hmm.cell (HX0.out 4 _ rfl) HNB.out; have x5 : w3.cell? ⟨w.heap.size, 5, none⟩ = some (.int .i64 t.ma) := hmm.cell (HX0.out 5 _ rfl) HNB.out; have x6 : w3.cell? ⟨w.heap.size, 6, none⟩ = some (.bool t.lz) := hmm.cell (HX0.out 6 _ rfl) HNB.out; have x7 : w3.cell? ⟨w.heap.size, 7, none⟩ = some (.slice tB t.kids.length td) := hmm.cell (HX0.out 7 _ rfl) HNB.out; have z0 : w3.cell? ⟨w.heap.size + 1, 0, none⟩ = some (.int .i64 0) := hmm.cell (HZ0.out 0 _ rfl) HNB1.out; have z1 : w3.cell? ⟨w.heap.size + 1, 1, none⟩ = some (.string ⟨#[]⟩) := hmm.cell (HZ0.out 1 _ rfl) HNB1.out; have z2 : w3.cell? ⟨w.heap.size + 1, 2, none⟩ = some (.bool false) := hmm.cell (HZ0.out 2 _ rfl) HNB1.out; have z3 : w3.cell? ⟨w.heap.size + 1, 3, none⟩ = some (.slice none 0 0) := hmm.cell (HZ0.out 3 _ rfl) HNB1.out; have z4 : w3.cell? ⟨w.heap.size + 1, 4, none⟩ = some (.int .i64 0) := hmm.cell (HZ0.out 4 _ rfl) HNB1.out; have z5 : w3.cell? ⟨w.heap.size + 1, 5, none⟩ = some (.int .i64 0) := hmm.cell (HZ0.out 5 _ rfl) HNB1.out; have z6 : w3.cell? ⟨w.heap.size + 1, 6, none⟩ = some (.bool false) := hmm.cell (HZ0.out 6 _ rfl) HNB1.out; have z7 : w3.cell? ⟨w.heap.size + 1, 7, none⟩ = some (.slice none 0 0) := hmm.cell (HZ0.out 7 _ rfl) HNB1.out; have hs3 : w.heap.size + 1 < w3.heap.size := Nat.lt_of_lt_of_le HSZ0.out hmm.fr; have hs4 : w.heap.size < w3.heap.size := Nat.lt_of_succ_lt hs3; have hf3 : ∀ o, w3.frozen? ⟨w.heap.size + 1, o, none⟩ = false := (fun o => (hmm.frz (p := ⟨w.heap.size + 1, o, none⟩) HSZ0.out HNB1.out).trans (HFZ0.out o)); have HMM := hide hmm; have HM3 := hide hm3; clear hmm hm3)))
    · have hend := rep_end (mi := 0) (ma := (-1)) (lz := lz) ((mv8 ((HS.out.self (bl_alloc (bl_alloc (bl_refl w) _) _)).trans HMM.out) HNB1.out (Nat.le_succ _) _ _ _ _ _ _ _ _ _ _ _ _ _ _ _ _).bl (bl_alloc (bl_refl _) _)) HBN.out HN.out HT.out HF.out (show N ≤ w3.heap.size by have := HN.out; omega) (fun j u hu => ks_alloc (W := ((((((((w3.setCell ⟨w.heap.size + 1, 0, none⟩ (.int .i64 7)).setCell ⟨w.heap.size + 1, 1, none⟩ (.string ⟨#[]⟩)).setCell ⟨w.heap.size + 1, 2, none⟩ (.bool false)).setCell ⟨w.heap.size + 1, 3, none⟩ (.slice none 0 0)).setCell ⟨w.heap.size + 1, 4, none⟩ (.int .i64 0)).setCell ⟨w.heap.size + 1, 5, none⟩ (.int .i64 (-1))).setCell ⟨w.heap.size + 1, 6, none⟩ (.bool lz)).setCell ⟨w.heap.size + 1, 7, none⟩ (.slice (some ⟨w3.heap.size, 0, none⟩) 1 1))) (T := 25) (cs := [.int .i64 t.k, .string t.ch, .bool t.nt, .slice tA t.rows.length tc, .int .i64 t.mi, .int .i64 t.ma, .bool t.lz, .slice tB t.kids.length td]) (by simp) j u (by rw [← HCS.out]; exact hu))
      have HEND := hide hend
      clear hend
      clear x0 x1 x2 x3 x4 x5 x6 x7
      go_wp2
      refine bodyPost_ret (v := .tuple #[.agg #[.int .i64 7, .string ⟨#[]⟩, .bool false, .slice none 0 0, .int .i64 0, .int .i64 (-1), .bool lz, .slice (some ⟨w3.heap.size, 0, none⟩) 1 1], .int .i64 0]) ?_ rfl HEND.out
      rw [results_cell2 rfl]
      go_simp
    · have hend := rep_end (mi := 0) (ma := (-1)) (lz := lz) (mv8 ((HS.out.self (bl_alloc (bl_alloc (bl_refl w) _) _)).trans HMM.out) HNB1.out (Nat.le_succ _) _ _ _ _ _ _ _ _ _ _ _ _ _ _ _ _) HBN.out HN.out HT.out HF.out (show N ≤ w2.heap.size by have := HN.out; have := HSZ2.out; omega) (fun j u hu => kept8 w3 (n := w.heap.size + 2) (Nat.lt_succ_self _) 0 (.int .i64 7) 1 (.string ⟨#[]⟩) 2 (.bool false) 3 (.slice none 0 0) 4 (.int .i64 0) 5 (.int .i64 (-1)) 6 (.bool lz) 7 (.slice (some ⟨w2.heap.size, 0, none⟩) 1 1) ⟨w2.heap.size, j, none⟩ u HSZ2.out (HM3.out.cell (ks_alloc (W := w2.drew) (T := 25) (cs := [.int .i64 t.k, .string t.ch, .bool t.nt, .slice tA t.rows.length tc, .int .i64 t.mi, .int .i64 t.ma, .bool t.lz, .slice tB t.kids.length td]) rfl j u (by rw [← HCS.out]; exact hu)) HNE2.out))
      have HEND := hide hend
      clear hend
      clear x0 x1 x2 x3 x4 x5 x6 x7
      go_wp2
      refine bodyPost_ret (v := .tuple #[.agg #[.int .i64 7, .string ⟨#[]⟩, .bool false, .slice none 0 0, .int .i64 0, .int .i64 (-1), .bool lz, .slice (some ⟨w2.heap.size, 0, none⟩) 1 1], .int .i64 0]) ?_ rfl HEND.out
      rw [results_cell2 rfl]
      go_simp
  rw [hq0, if_neg (by decide)] at ho
  have HT0 := hide (fun W (hp : Pl W b s l) => pos_take hp ⟨#[42]⟩ false hq0)
  clear hq0
  rcases hq1 : (hdC l == [43]) with _ | _
  rotate_left
  · rw [hq1, if_pos rfl] at ho
    obtain ⟨r0, hr0⟩ : ∃ r0, tlC l = r0 := ⟨_, rfl⟩
    have HTT : Hid (∀ W, Pl W b s l → Calls Tryz.prog 22 #[.pointer (some ⟨b, 0, none⟩), .string ⟨#[43]⟩] W fun e w' => e = .returned (.bool true) ∧ Mv W w' b s r0) := hide (fun W hp => by rw [← hr0]; exact pos_take hp ⟨#[43]⟩ true hq1)
    rw [hr0] at ho
    clear hr0 hq1
    obtain ⟨r, rfl⟩ : ∃ r, r = r0 := ⟨_, rfl⟩
    unfold lazP at ho
    obtain ⟨lz, hlz⟩ : ∃ q, (hdC r == [63]) = q := ⟨_, rfl⟩
    have HTQ := hide (fun W (hp : Pl W b s r) => pos_take hp ⟨#[63]⟩ lz hlz)
    rw [hlz] at ho
    obtain ⟨r2, hr2⟩ : ∃ r2, (if lz = true then tlC r else r) = r2 := ⟨_, rfl⟩
    rw [hr2] at ho HTQ
    subst ho
    clear hlz hr2
    go_enter Tryz.func66, Tryz.ntmps66
    go_wp2_with fail
    refine (HT0.out _ HP0.out).mono ?_
    rintro e u0 ⟨rfl, hm⟩
    have N0 : Hid (Mv ((w.alloc (.cells #[.int .i64 t.k, .string t.ch, .bool t.nt, .slice tA t.rows.length tc, .int .i64 t.mi, .int .i64 t.ma, .bool t.lz, .slice tB t.kids.length td] 25)).alloc (.cells #[.int .i64 0, .string ⟨#[]⟩, .bool false, .slice none 0 0, .int .i64 0, .int .i64 0, .bool false, .slice none 0 0] 25)) u0 b s l) := hide hm
    clear hm
    go_wp2_with fail
    refine (HTT.out _ (N0.out.pl HP0.out)).mono ?_
    rintro e w2 ⟨rfl, hm⟩
    have M2 : Hid (Mv ((w.alloc (.cells #[.int .i64 t.k, .string t.ch, .bool t.nt, .slice tA t.rows.length tc, .int .i64 t.mi, .int .i64 t.ma, .bool t.lz, .slice tB t.kids.length td] 25)).alloc (.cells #[.int .i64 0, .string ⟨#[]⟩, .bool false, .slice none 0 0, .int .i64 0, .int .i64 0, .bool false, .slice none 0 0] 25)) w2 b s r) := hide (N0.out.trans hm)
    clear hm
    have HP2 := hide (M2.out.pl HP0.out)
    have x0 : w2.cell? ⟨w.heap.size, 0, none⟩ = some (.int .i64 t.k) := M2.out.cell (HX0.out 0 _ rfl) HNB.out
    have x1 : w2.cell? ⟨w.heap.size, 1, none⟩ = some (.string t.ch) := M2.out.cell (HX0.out 1 _ rfl) HNB.out
    have x2 : w2.cell? ⟨w.heap.size, 2, none⟩ = some (.bool t.nt) := M2.out.cell (HX0.out 2 _ rfl) HNB.out
    have x3 : w2.cell? ⟨w.heap.size, 3, none⟩ = some (.slice tA t.rows.length tc) := M2.out.cell (HX0.out 3 _ rfl) HNB.out
    have x4 : w2.cell? ⟨w.heap.size, 4, none⟩ = some (.int .i64 t.mi) := M2.out.cell (HX0.out 4 _ rfl) HNB.out
    have x5 : w2.cell? ⟨w.heap.size, 5, none⟩ = some (.int .i64 t.ma) := M2.out.cell (HX0.out 5 _ rfl) HNB.out
    have x6 : w2.cell? ⟨w.heap.size, 6, none⟩ = some (.bool t.lz) := M2.out.cell (HX0.out 6 _ rfl) HNB.out
    have x7 : w2.cell? ⟨w.heap.size, 7, none⟩ = some (.slice tB t.kids.length td) := M2.out.cell (HX0.out 7 _ rfl) HNB.out
    have HSZ2 := hide (show w.heap.size + 2 ≤ w2.heap.size by have := M2.out.fr; simpa using this)
    have HNE2 := hide (show w2.heap.size ≠ b by have := M2.out.fr; have h2 : b < w.heap.size := World.block_lt_of_cell? _ _ HS.out.mem.1; simp at this; omega)
    go_wp2_with fail
    go_must (go_region_held3 (fun W => W.cell? ⟨w.heap.size, 0, none⟩ = some (.int .i64 t.k) ∧ W.cell? ⟨w.heap.size, 1, none⟩ = some (.string t.ch) ∧ W.cell? ⟨w.heap.size, 2, none⟩ = some (.bool t.nt) ∧ W.cell? ⟨w.heap.size, 3, none⟩ = some (.slice tA t.rows.length tc) ∧ W.cell? ⟨w.heap.size, 4, none⟩ = some (.int .i64 t.mi) ∧ W.cell? ⟨w.heap.size, 5, none⟩ = some (.int .i64 t.ma) ∧ W.cell? ⟨w.heap.size, 6, none⟩ = some (.bool t.lz) ∧ W.cell? ⟨w.heap.size, 7, none⟩ = some (.slice tB t.kids.length td)) (first | (refine ⟨?_, ?_, ?_, ?_, ?_, ?_, ?_, ?_⟩ <;> (repeat (first | with_reducible assumption | with_reducible refine set_blk ?_ (Nat.succ_ne_self _) | with_reducible refine alloc_blk ?_ | with_reducible refine drew_blk ?_)); done) | go_keep) (first
      | (go_at_call 22; refine (HTQ.out _ (HP2.out.bl (by repeat (first | exact bl_refl _ | refine bl_drew ?_ | refine bl_alloc ?_ _)))).mono ?_; rintro e w3 ⟨rfl, hm3⟩; have hmm := (M2.out.bl (by repeat (first | exact bl_refl _ | refine bl_drew ?_ | refine bl_alloc ?_ _))).trans hm3; have x0 : w3.cell? ⟨w.heap.size, 0, none⟩ = some (.int .i64 t.k) := hmm.cell (HX0.out 0 _ rfl) HNB.out; have x1 : w3.cell? ⟨w.heap.size, 1, none⟩ = some (.string t.ch) := hmm.cell (HX0.out 1 _ rfl) HNB.out; have x2 : w3.cell? ⟨w.heap.size, 2, none⟩ = some (.bool t.nt) := hmm.cell (HX0.out 2 _ rfl) HNB.out; have x3 : w3.cell? ⟨w.heap.size, 3, none⟩ = some (.slice tA t.rows.length tc) := hmm.cell (HX0.out 3 _ rfl) HNB.out; have x4 : w3.cell? ⟨w.heap.size, 4, none⟩ = some (.int .i64 t.mi) := hmm.cell (HX0.out 4 _ rfl) HNB.out; have x5 : w3.cell? ⟨w.heap.size, 5, none⟩ = some (.int .i64 t.ma) := hmm.cell (HX0.out 5 _ rfl) HNB.out; have x6 : w3.cell? ⟨w.heap.size, 6, none⟩ = some (.bool t.lz) := hmm.cell (HX0.out 6 _ rfl) HNB.out; have x7 : w3.cell? ⟨w.heap.size, 7, none⟩ = some (.slice tB t.kids.length td) := hmm.cell (HX0.out 7 _ rfl) HNB.out; have z0 : w3.cell? ⟨w.heap.size + 1, 0, none⟩ = some (.int .i64 0) := hmm.cell (HZ0.out 0 _ rfl) HNB1.out; have z1 : w3.cell? ⟨w.heap.size + 1, 1, none⟩ = some (.string ⟨#[]⟩) := hmm.cell (HZ0.out 1 _ rfl) HNB1.out; have z2 : w3.cell? ⟨w.heap.size + 1, 2, none⟩ = some (.bool false) := hmm.cell (HZ0.out 2 _ rfl) HNB1.out; have z3 : w3.cell? ⟨w.heap.size + 1, 3, none⟩ = some (.slice none 0 0) := hmm.cell (HZ0.out 3 _ rfl) HNB1.out; have z4 : w3.cell? ⟨w.heap.size + 1, 4, none⟩ = some (.int .i64 0) := hmm.cell (HZ0.out 4 _ rfl) HNB1.out; have z5 : w3.cell? ⟨w.heap.size + 1, 5, none⟩ = some (.int .i64 0) := hmm.cell (HZ0.out 5 _ rfl) HNB1.out; have z6 : w3.cell? ⟨w.heap.size + 1, 6, none⟩ = some (.bool false) := hmm.cell (HZ0.out 6 _ rfl) HNB1.out; have z7 : w3.cell? ⟨w.heap.size + 1, 7, none⟩ = some (.slice none 0 0) := hmm.cell (HZ0.out 7 _ rfl) HNB1.out; have hs3 : w.heap.size + 1 < w3.heap.size := Nat.lt_of_lt_of_le HSZ0.out hmm.fr; have hs4 : w.heap.size < w3.heap.size := Nat.lt_of_succ_lt hs3; have hf3 : ∀ o, w3.frozen? ⟨w.heap.size + 1, o, none⟩ = false := (fun o => (hmm.frz (p := ⟨w.heap.size + 1, o, none⟩) HSZ0.out HNB1.out).trans (HFZ0.out o)); have HMM := hide hmm; have HM3 := hide hm3; clear hmm hm3)))
    · have hend := rep_end (mi := 1) (ma := (-1)) (lz := lz) ((mv8 ((HS.out.self (bl_alloc (bl_alloc (bl_refl w) _) _)).trans HMM.out) HNB1.out (Nat.le_succ _) _ _ _ _ _ _ _ _ _ _ _ _ _ _ _ _).bl (bl_alloc (bl_refl _) _)) HBN.out HN.out HT.out HF.out (show N ≤ w3.heap.size by have := HN.out; omega) (fun j u hu => ks_alloc (W := ((((((((w3.setCell ⟨w.heap.size + 1, 0, none⟩ (.int .i64 7)).setCell ⟨w.heap.size + 1, 1, none⟩ (.string ⟨#[]⟩)).setCell ⟨w.heap.size + 1, 2, none⟩ (.bool false)).setCell ⟨w.heap.size + 1, 3, none⟩ (.slice none 0 0)).setCell ⟨w.heap.size + 1, 4, none⟩ (.int .i64 1)).setCell ⟨w.heap.size + 1, 5, none⟩ (.int .i64 (-1))).setCell ⟨w.heap.size + 1, 6, none⟩ (.bool lz)).setCell ⟨w.heap.size + 1, 7, none⟩ (.slice (some ⟨w3.heap.size, 0, none⟩) 1 1))) (T := 25) (cs := [.int .i64 t.k, .string t.ch, .bool t.nt, .slice tA t.rows.length tc, .int .i64 t.mi, .int .i64 t.ma, .bool t.lz, .slice tB t.kids.length td]) (by simp) j u (by rw [← HCS.out]; exact hu))
      have HEND := hide hend
      clear hend
      clear x0 x1 x2 x3 x4 x5 x6 x7
      go_wp2
      refine bodyPost_ret (v := .tuple #[.agg #[.int .i64 7, .string ⟨#[]⟩, .bool false, .slice none 0 0, .int .i64 1, .int .i64 (-1), .bool lz, .slice (some ⟨w3.heap.size, 0, none⟩) 1 1], .int .i64 0]) ?_ rfl HEND.out
      rw [results_cell2 rfl]
      go_simp
    · have hend := rep_end (mi := 1) (ma := (-1)) (lz := lz) (mv8 ((HS.out.self (bl_alloc (bl_alloc (bl_refl w) _) _)).trans HMM.out) HNB1.out (Nat.le_succ _) _ _ _ _ _ _ _ _ _ _ _ _ _ _ _ _) HBN.out HN.out HT.out HF.out (show N ≤ w2.heap.size by have := HN.out; have := HSZ2.out; omega) (fun j u hu => kept8 w3 (n := w.heap.size + 2) (Nat.lt_succ_self _) 0 (.int .i64 7) 1 (.string ⟨#[]⟩) 2 (.bool false) 3 (.slice none 0 0) 4 (.int .i64 1) 5 (.int .i64 (-1)) 6 (.bool lz) 7 (.slice (some ⟨w2.heap.size, 0, none⟩) 1 1) ⟨w2.heap.size, j, none⟩ u HSZ2.out (HM3.out.cell (ks_alloc (W := w2.drew) (T := 25) (cs := [.int .i64 t.k, .string t.ch, .bool t.nt, .slice tA t.rows.length tc, .int .i64 t.mi, .int .i64 t.ma, .bool t.lz, .slice tB t.kids.length td]) rfl j u (by rw [← HCS.out]; exact hu)) HNE2.out))
      have HEND := hide hend
      clear hend
      clear x0 x1 x2 x3 x4 x5 x6 x7
      go_wp2
      refine bodyPost_ret (v := .tuple #[.agg #[.int .i64 7, .string ⟨#[]⟩, .bool false, .slice none 0 0, .int .i64 1, .int .i64 (-1), .bool lz, .slice (some ⟨w2.heap.size, 0, none⟩) 1 1], .int .i64 0]) ?_ rfl HEND.out
      rw [results_cell2 rfl]
      go_simp
  rw [hq1, if_neg (by decide)] at ho
  have HT1 := hide (fun W (hp : Pl W b s l) => pos_take hp ⟨#[43]⟩ false hq1)
  clear hq1
  rcases hq2 : (hdC l == [63]) with _ | _
  rotate_left
  · rw [hq2, if_pos rfl] at ho
    obtain ⟨r0, hr0⟩ : ∃ r0, tlC l = r0 := ⟨_, rfl⟩
    have HTT : Hid (∀ W, Pl W b s l → Calls Tryz.prog 22 #[.pointer (some ⟨b, 0, none⟩), .string ⟨#[63]⟩] W fun e w' => e = .returned (.bool true) ∧ Mv W w' b s r0) := hide (fun W hp => by rw [← hr0]; exact pos_take hp ⟨#[63]⟩ true hq2)
    rw [hr0] at ho
    clear hr0 hq2
    obtain ⟨r, rfl⟩ : ∃ r, r = r0 := ⟨_, rfl⟩
    unfold lazP at ho
    obtain ⟨lz, hlz⟩ : ∃ q, (hdC r == [63]) = q := ⟨_, rfl⟩
    have HTQ := hide (fun W (hp : Pl W b s r) => pos_take hp ⟨#[63]⟩ lz hlz)
    rw [hlz] at ho
    obtain ⟨r2, hr2⟩ : ∃ r2, (if lz = true then tlC r else r) = r2 := ⟨_, rfl⟩
    rw [hr2] at ho HTQ
    subst ho
    clear hlz hr2
    go_enter Tryz.func66, Tryz.ntmps66
    go_wp2_with fail
    refine (HT0.out _ HP0.out).mono ?_
    rintro e u0 ⟨rfl, hm⟩
    have N0 : Hid (Mv ((w.alloc (.cells #[.int .i64 t.k, .string t.ch, .bool t.nt, .slice tA t.rows.length tc, .int .i64 t.mi, .int .i64 t.ma, .bool t.lz, .slice tB t.kids.length td] 25)).alloc (.cells #[.int .i64 0, .string ⟨#[]⟩, .bool false, .slice none 0 0, .int .i64 0, .int .i64 0, .bool false, .slice none 0 0] 25)) u0 b s l) := hide hm
    clear hm
    go_wp2_with fail
    refine (HT1.out _ (N0.out.pl HP0.out)).mono ?_
    rintro e u1 ⟨rfl, hm⟩
    have N1 : Hid (Mv ((w.alloc (.cells #[.int .i64 t.k, .string t.ch, .bool t.nt, .slice tA t.rows.length tc, .int .i64 t.mi, .int .i64 t.ma, .bool t.lz, .slice tB t.kids.length td] 25)).alloc (.cells #[.int .i64 0, .string ⟨#[]⟩, .bool false, .slice none 0 0, .int .i64 0, .int .i64 0, .bool false, .slice none 0 0] 25)) u1 b s l) := hide (N0.out.trans hm)
    clear hm
    go_wp2_with fail
    refine (HTT.out _ (N1.out.pl HP0.out)).mono ?_
    rintro e w2 ⟨rfl, hm⟩
    have M2 : Hid (Mv ((w.alloc (.cells #[.int .i64 t.k, .string t.ch, .bool t.nt, .slice tA t.rows.length tc, .int .i64 t.mi, .int .i64 t.ma, .bool t.lz, .slice tB t.kids.length td] 25)).alloc (.cells #[.int .i64 0, .string ⟨#[]⟩, .bool false, .slice none 0 0, .int .i64 0, .int .i64 0, .bool false, .slice none 0 0] 25)) w2 b s r) := hide (N1.out.trans hm)
    clear hm
    have HP2 := hide (M2.out.pl HP0.out)
    have x0 : w2.cell? ⟨w.heap.size, 0, none⟩ = some (.int .i64 t.k) := M2.out.cell (HX0.out 0 _ rfl) HNB.out
    have x1 : w2.cell? ⟨w.heap.size, 1, none⟩ = some (.string t.ch) := M2.out.cell (HX0.out 1 _ rfl) HNB.out
    have x2 : w2.cell? ⟨w.heap.size, 2, none⟩ = some (.bool t.nt) := M2.out.cell (HX0.out 2 _ rfl) HNB.out
    have x3 : w2.cell? ⟨w.heap.size, 3, none⟩ = some (.slice tA t.rows.length tc) := M2.out.cell (HX0.out 3 _ rfl) HNB.out
    have x4 : w2.cell? ⟨w.heap.size, 4, none⟩ = some (.int .i64 t.mi) := M2.out.cell (HX0.out 4 _ rfl) HNB.out
    have x5 : w2.cell? ⟨w.heap.size, 5, none⟩ = some (.int .i64 t.ma) := M2.out.cell (HX0.out 5 _ rfl) HNB.out
    have x6 : w2.cell? ⟨w.heap.size, 6, none⟩ = some (.bool t.lz) := M2.out.cell (HX0.out 6 _ rfl) HNB.out
    have x7 : w2.cell? ⟨w.heap.size, 7, none⟩ = some (.slice tB t.kids.length td) := M2.out.cell (HX0.out 7 _ rfl) HNB.out
    have HSZ2 := hide (show w.heap.size + 2 ≤ w2.heap.size by have := M2.out.fr; simpa using this)
    have HNE2 := hide (show w2.heap.size ≠ b by have := M2.out.fr; have h2 : b < w.heap.size := World.block_lt_of_cell? _ _ HS.out.mem.1; simp at this; omega)
    go_wp2_with fail
    go_must (go_region_held3 (fun W => W.cell? ⟨w.heap.size, 0, none⟩ = some (.int .i64 t.k) ∧ W.cell? ⟨w.heap.size, 1, none⟩ = some (.string t.ch) ∧ W.cell? ⟨w.heap.size, 2, none⟩ = some (.bool t.nt) ∧ W.cell? ⟨w.heap.size, 3, none⟩ = some (.slice tA t.rows.length tc) ∧ W.cell? ⟨w.heap.size, 4, none⟩ = some (.int .i64 t.mi) ∧ W.cell? ⟨w.heap.size, 5, none⟩ = some (.int .i64 t.ma) ∧ W.cell? ⟨w.heap.size, 6, none⟩ = some (.bool t.lz) ∧ W.cell? ⟨w.heap.size, 7, none⟩ = some (.slice tB t.kids.length td)) (first | (refine ⟨?_, ?_, ?_, ?_, ?_, ?_, ?_, ?_⟩ <;> (repeat (first | with_reducible assumption | with_reducible refine set_blk ?_ (Nat.succ_ne_self _) | with_reducible refine alloc_blk ?_ | with_reducible refine drew_blk ?_)); done) | go_keep) (first
      | (go_at_call 22; refine (HTQ.out _ (HP2.out.bl (by repeat (first | exact bl_refl _ | refine bl_drew ?_ | refine bl_alloc ?_ _)))).mono ?_; rintro e w3 ⟨rfl, hm3⟩; have hmm := (M2.out.bl (by repeat (first | exact bl_refl _ | refine bl_drew ?_ | refine bl_alloc ?_ _))).trans hm3; have x0 : w3.cell? ⟨w.heap.size, 0, none⟩ = some (.int .i64 t.k) := hmm.cell (HX0.out 0 _ rfl) HNB.out; have x1 : w3.cell? ⟨w.heap.size, 1, none⟩ = some (.string t.ch) := hmm.cell (HX0.out 1 _ rfl) HNB.out; have x2 : w3.cell? ⟨w.heap.size, 2, none⟩ = some (.bool t.nt) := hmm.cell (HX0.out 2 _ rfl) HNB.out; have x3 : w3.cell? ⟨w.heap.size, 3, none⟩ = some (.slice tA t.rows.length tc) := hmm.cell (HX0.out 3 _ rfl) HNB.out; have x4 : w3.cell? ⟨w.heap.size, 4, none⟩ = some (.int .i64 t.mi) := hmm.cell (HX0.out 4 _ rfl) HNB.out; have x5 : w3.cell? ⟨w.heap.size, 5, none⟩ = some (.int .i64 t.ma) := hmm.cell (HX0.out 5 _ rfl) HNB.out; have x6 : w3.cell? ⟨w.heap.size, 6, none⟩ = some (.bool t.lz) := hmm.cell (HX0.out 6 _ rfl) HNB.out; have x7 : w3.cell? ⟨w.heap.size, 7, none⟩ = some (.slice tB t.kids.length td) := hmm.cell (HX0.out 7 _ rfl) HNB.out; have z0 : w3.cell? ⟨w.heap.size + 1, 0, none⟩ = some (.int .i64 0) := hmm.cell (HZ0.out 0 _ rfl) HNB1.out; have z1 : w3.cell? ⟨w.heap.size + 1, 1, none⟩ = some (.string ⟨#[]⟩) := hmm.cell (HZ0.out 1 _ rfl) HNB1.out; have z2 : w3.cell? ⟨w.heap.size + 1, 2, none⟩ = some (.bool false) := hmm.cell (HZ0.out 2 _ rfl) HNB1.out; have z3 : w3.cell? ⟨w.heap.size + 1, 3, none⟩ = some (.slice none 0 0) := hmm.cell (HZ0.out 3 _ rfl) HNB1.out; have z4 : w3.cell? ⟨w.heap.size + 1, 4, none⟩ = some (.int .i64 0) := hmm.cell (HZ0.out 4 _ rfl) HNB1.out; have z5 : w3.cell? ⟨w.heap.size + 1, 5, none⟩ = some (.int .i64 0) := hmm.cell (HZ0.out 5 _ rfl) HNB1.out; have z6 : w3.cell? ⟨w.heap.size + 1, 6, none⟩ = some (.bool false) := hmm.cell (HZ0.out 6 _ rfl) HNB1.out; have z7 : w3.cell? ⟨w.heap.size + 1, 7, none⟩ = some (.slice none 0 0) := hmm.cell (HZ0.out 7 _ rfl) HNB1.out; have hs3 : w.heap.size + 1 < w3.heap.size := Nat.lt_of_lt_of_le HSZ0.out hmm.fr; have hs4 : w.heap.size < w3.heap.size := Nat.lt_of_succ_lt hs3; have hf3 : ∀ o, w3.frozen? ⟨w.heap.size + 1, o, none⟩ = false := (fun o => (hmm.frz (p := ⟨w.heap.size + 1, o, none⟩) HSZ0.out HNB1.out).trans (HFZ0.out o)); have HMM := hide hmm; have HM3 := hide hm3; clear hmm hm3)))
    · have hend := rep_end (mi := 0) (ma := 1) (lz := lz) ((mv8 ((HS.out.self (bl_alloc (bl_alloc (bl_refl w) _) _)).trans HMM.out) HNB1.out (Nat.le_succ _) _ _ _ _ _ _ _ _ _ _ _ _ _ _ _ _).bl (bl_alloc (bl_refl _) _)) HBN.out HN.out HT.out HF.out (show N ≤ w3.heap.size by have := HN.out; omega) (fun j u hu => ks_alloc (W := ((((((((w3.setCell ⟨w.heap.size + 1, 0, none⟩ (.int .i64 7)).setCell ⟨w.heap.size + 1, 1, none⟩ (.string ⟨#[]⟩)).setCell ⟨w.heap.size + 1, 2, none⟩ (.bool false)).setCell ⟨w.heap.size + 1, 3, none⟩ (.slice none 0 0)).setCell ⟨w.heap.size + 1, 4, none⟩ (.int .i64 0)).setCell ⟨w.heap.size + 1, 5, none⟩ (.int .i64 1)).setCell ⟨w.heap.size + 1, 6, none⟩ (.bool lz)).setCell ⟨w.heap.size + 1, 7, none⟩ (.slice (some ⟨w3.heap.size, 0, none⟩) 1 1))) (T := 25) (cs := [.int .i64 t.k, .string t.ch, .bool t.nt, .slice tA t.rows.length tc, .int .i64 t.mi, .int .i64 t.ma, .bool t.lz, .slice tB t.kids.length td]) (by simp) j u (by rw [← HCS.out]; exact hu))
      have HEND := hide hend
      clear hend
      clear x0 x1 x2 x3 x4 x5 x6 x7
      go_wp2
      refine bodyPost_ret (v := .tuple #[.agg #[.int .i64 7, .string ⟨#[]⟩, .bool false, .slice none 0 0, .int .i64 0, .int .i64 1, .bool lz, .slice (some ⟨w3.heap.size, 0, none⟩) 1 1], .int .i64 0]) ?_ rfl HEND.out
      rw [results_cell2 rfl]
      go_simp
    · have hend := rep_end (mi := 0) (ma := 1) (lz := lz) (mv8 ((HS.out.self (bl_alloc (bl_alloc (bl_refl w) _) _)).trans HMM.out) HNB1.out (Nat.le_succ _) _ _ _ _ _ _ _ _ _ _ _ _ _ _ _ _) HBN.out HN.out HT.out HF.out (show N ≤ w2.heap.size by have := HN.out; have := HSZ2.out; omega) (fun j u hu => kept8 w3 (n := w.heap.size + 2) (Nat.lt_succ_self _) 0 (.int .i64 7) 1 (.string ⟨#[]⟩) 2 (.bool false) 3 (.slice none 0 0) 4 (.int .i64 0) 5 (.int .i64 1) 6 (.bool lz) 7 (.slice (some ⟨w2.heap.size, 0, none⟩) 1 1) ⟨w2.heap.size, j, none⟩ u HSZ2.out (HM3.out.cell (ks_alloc (W := w2.drew) (T := 25) (cs := [.int .i64 t.k, .string t.ch, .bool t.nt, .slice tA t.rows.length tc, .int .i64 t.mi, .int .i64 t.ma, .bool t.lz, .slice tB t.kids.length td]) rfl j u (by rw [← HCS.out]; exact hu)) HNE2.out))
      have HEND := hide hend
      clear hend
      clear x0 x1 x2 x3 x4 x5 x6 x7
      go_wp2
      refine bodyPost_ret (v := .tuple #[.agg #[.int .i64 7, .string ⟨#[]⟩, .bool false, .slice none 0 0, .int .i64 0, .int .i64 1, .bool lz, .slice (some ⟨w2.heap.size, 0, none⟩) 1 1], .int .i64 0]) ?_ rfl HEND.out
      rw [results_cell2 rfl]
      go_simp
  rw [hq2, if_neg (by decide)] at ho
  have HT2 := hide (fun W (hp : Pl W b s l) => pos_take hp ⟨#[63]⟩ false hq2)
  clear hq2
  rcases hq3 : (hdC l == [123]) with _ | _
  rotate_left
  · rw [hq3, if_pos rfl] at ho
    obtain ⟨r0, hr0⟩ : ∃ r0, tlC l = r0 := ⟨_, rfl⟩
    have HTT : Hid (∀ W, Pl W b s l → Calls Tryz.prog 22 #[.pointer (some ⟨b, 0, none⟩), .string ⟨#[123]⟩] W fun e w' => e = .returned (.bool true) ∧ Mv W w' b s r0) := hide (fun W hp => by rw [← hr0]; exact pos_take hp ⟨#[123]⟩ true hq3)
    rw [hr0] at ho
    clear hr0 hq3
    obtain ⟨o, hoo⟩ : ∃ o, bndP r0 = o := ⟨_, rfl⟩
    have HBD := hide (fun W (hp : Pl W b s r0) => bounds_any hp o hoo)
    unfold BdPost at HBD
    rw [hoo] at ho
    clear hoo
    rcases o with _ | ⟨n, m, r⟩
    · simp only at ho
      subst ho
      simp only [Option.isSome] at HBD
      go_enter Tryz.func66, Tryz.ntmps66
      go_wp2_with fail
      refine (HT0.out _ HP0.out).mono ?_
      rintro e u0 ⟨rfl, hm⟩
      have N0 : Hid (Mv ((w.alloc (.cells #[.int .i64 t.k, .string t.ch, .bool t.nt, .slice tA t.rows.length tc, .int .i64 t.mi, .int .i64 t.ma, .bool t.lz, .slice tB t.kids.length td] 25)).alloc (.cells #[.int .i64 0, .string ⟨#[]⟩, .bool false, .slice none 0 0, .int .i64 0, .int .i64 0, .bool false, .slice none 0 0] 25)) u0 b s l) := hide hm
      clear hm
      go_wp2_with fail
      refine (HT1.out _ (N0.out.pl HP0.out)).mono ?_
      rintro e u1 ⟨rfl, hm⟩
      have N1 : Hid (Mv ((w.alloc (.cells #[.int .i64 t.k, .string t.ch, .bool t.nt, .slice tA t.rows.length tc, .int .i64 t.mi, .int .i64 t.ma, .bool t.lz, .slice tB t.kids.length td] 25)).alloc (.cells #[.int .i64 0, .string ⟨#[]⟩, .bool false, .slice none 0 0, .int .i64 0, .int .i64 0, .bool false, .slice none 0 0] 25)) u1 b s l) := hide (N0.out.trans hm)
      clear hm
      go_wp2_with fail
      refine (HT2.out _ (N1.out.pl HP0.out)).mono ?_
      rintro e u2 ⟨rfl, hm⟩
      have N2 : Hid (Mv ((w.alloc (.cells #[.int .i64 t.k, .string t.ch, .bool t.nt, .slice tA t.rows.length tc, .int .i64 t.mi, .int .i64 t.ma, .bool t.lz, .slice tB t.kids.length td] 25)).alloc (.cells #[.int .i64 0, .string ⟨#[]⟩, .bool false, .slice none 0 0, .int .i64 0, .int .i64 0, .bool false, .slice none 0 0] 25)) u2 b s l) := hide (N1.out.trans hm)
      clear hm
      go_wp2_with fail
      refine (HTT.out _ (N2.out.pl HP0.out)).mono ?_
      rintro e u3 ⟨rfl, hm⟩
      have N3 : Hid (Mv ((w.alloc (.cells #[.int .i64 t.k, .string t.ch, .bool t.nt, .slice tA t.rows.length tc, .int .i64 t.mi, .int .i64 t.ma, .bool t.lz, .slice tB t.kids.length td] 25)).alloc (.cells #[.int .i64 0, .string ⟨#[]⟩, .bool false, .slice none 0 0, .int .i64 0, .int .i64 0, .bool false, .slice none 0 0] 25)) u3 b s r0) := hide (N2.out.trans hm)
      clear hm
      go_wp2_with fail
      refine (HBD.out _ (N3.out.pl HP0.out)).mono ?_
      rintro e w3 ⟨n, m, r, rfl, hm, _⟩
      have hmm := N3.out.trans hm
      have z0 : w3.cell? ⟨w.heap.size + 1, 0, none⟩ = some (.int .i64 0) := hmm.cell (HZ0.out 0 _ rfl) HNB1.out
      have z1 : w3.cell? ⟨w.heap.size + 1, 1, none⟩ = some (.string ⟨#[]⟩) := hmm.cell (HZ0.out 1 _ rfl) HNB1.out
      have z2 : w3.cell? ⟨w.heap.size + 1, 2, none⟩ = some (.bool false) := hmm.cell (HZ0.out 2 _ rfl) HNB1.out
      have z3 : w3.cell? ⟨w.heap.size + 1, 3, none⟩ = some (.slice none 0 0) := hmm.cell (HZ0.out 3 _ rfl) HNB1.out
      have z4 : w3.cell? ⟨w.heap.size + 1, 4, none⟩ = some (.int .i64 0) := hmm.cell (HZ0.out 4 _ rfl) HNB1.out
      have z5 : w3.cell? ⟨w.heap.size + 1, 5, none⟩ = some (.int .i64 0) := hmm.cell (HZ0.out 5 _ rfl) HNB1.out
      have z6 : w3.cell? ⟨w.heap.size + 1, 6, none⟩ = some (.bool false) := hmm.cell (HZ0.out 6 _ rfl) HNB1.out
      have z7 : w3.cell? ⟨w.heap.size + 1, 7, none⟩ = some (.slice none 0 0) := hmm.cell (HZ0.out 7 _ rfl) HNB1.out
      have hf3 : ∀ o, w3.frozen? ⟨w.heap.size + 1, o, none⟩ = false := fun o => (hmm.frz (p := ⟨w.heap.size + 1, o, none⟩) HSZ0.out HNB1.out).trans (HFZ0.out o)
      have HMM := hide hmm
      clear hm hmm
      go_wp2
      refine bodyPost_ret (v := .tuple #[.agg #[.int .i64 0, .string ⟨#[]⟩, .bool false, .slice none 0 0, .int .i64 0, .int .i64 0, .bool false, .slice none 0 0], .int .i64 10]) ?_ rfl ⟨rfl, _, mv8 ((HS.out.self (bl_alloc (bl_alloc (bl_refl w) _) _)).trans HMM.out) HNB1.out (Nat.le_succ _) _ _ _ _ _ _ _ _ _ _ _ _ _ _ _ _⟩
      rw [results_cell2 rfl]
      go_simp
    · simp only at ho
      simp only [Option.isSome] at HBD
      unfold lazP at ho
      obtain ⟨lz, hlz⟩ : ∃ q, (hdC r == [63]) = q := ⟨_, rfl⟩
      have HTQ := hide (fun W (hp : Pl W b s r) => pos_take hp ⟨#[63]⟩ lz hlz)
      rw [hlz] at ho
      obtain ⟨r2, hr2⟩ : ∃ r2, (if lz = true then tlC r else r) = r2 := ⟨_, rfl⟩
      rw [hr2] at ho HTQ
      subst ho
      clear hlz hr2
      go_enter Tryz.func66, Tryz.ntmps66
      go_wp2_with fail
      refine (HT0.out _ HP0.out).mono ?_
      rintro e u0 ⟨rfl, hm⟩
      have N0 : Hid (Mv ((w.alloc (.cells #[.int .i64 t.k, .string t.ch, .bool t.nt, .slice tA t.rows.length tc, .int .i64 t.mi, .int .i64 t.ma, .bool t.lz, .slice tB t.kids.length td] 25)).alloc (.cells #[.int .i64 0, .string ⟨#[]⟩, .bool false, .slice none 0 0, .int .i64 0, .int .i64 0, .bool false, .slice none 0 0] 25)) u0 b s l) := hide hm
      clear hm
      go_wp2_with fail
      refine (HT1.out _ (N0.out.pl HP0.out)).mono ?_
      rintro e u1 ⟨rfl, hm⟩
      have N1 : Hid (Mv ((w.alloc (.cells #[.int .i64 t.k, .string t.ch, .bool t.nt, .slice tA t.rows.length tc, .int .i64 t.mi, .int .i64 t.ma, .bool t.lz, .slice tB t.kids.length td] 25)).alloc (.cells #[.int .i64 0, .string ⟨#[]⟩, .bool false, .slice none 0 0, .int .i64 0, .int .i64 0, .bool false, .slice none 0 0] 25)) u1 b s l) := hide (N0.out.trans hm)
      clear hm
      go_wp2_with fail
      refine (HT2.out _ (N1.out.pl HP0.out)).mono ?_
      rintro e u2 ⟨rfl, hm⟩
      have N2 : Hid (Mv ((w.alloc (.cells #[.int .i64 t.k, .string t.ch, .bool t.nt, .slice tA t.rows.length tc, .int .i64 t.mi, .int .i64 t.ma, .bool t.lz, .slice tB t.kids.length td] 25)).alloc (.cells #[.int .i64 0, .string ⟨#[]⟩, .bool false, .slice none 0 0, .int .i64 0, .int .i64 0, .bool false, .slice none 0 0] 25)) u2 b s l) := hide (N1.out.trans hm)
      clear hm
      go_wp2_with fail
      refine (HTT.out _ (N2.out.pl HP0.out)).mono ?_
      rintro e u3 ⟨rfl, hm⟩
      have N3 : Hid (Mv ((w.alloc (.cells #[.int .i64 t.k, .string t.ch, .bool t.nt, .slice tA t.rows.length tc, .int .i64 t.mi, .int .i64 t.ma, .bool t.lz, .slice tB t.kids.length td] 25)).alloc (.cells #[.int .i64 0, .string ⟨#[]⟩, .bool false, .slice none 0 0, .int .i64 0, .int .i64 0, .bool false, .slice none 0 0] 25)) u3 b s r0) := hide (N2.out.trans hm)
      clear hm
      go_wp2_with fail
      refine (HBD.out _ (N3.out.pl HP0.out)).mono ?_
      rintro e w2 ⟨n', m', r', rfl, hm, hx⟩
      obtain ⟨e1, e2, e3⟩ := hx _ rfl
      simp only at e1 e2 e3
      subst e1
      have e2' := e2.symm
      subst e2'
      have e3' := e3.symm
      subst e3'
      clear hx
      have M2 := hide (N3.out.trans hm)
      clear hm
      have HP2 := hide (M2.out.pl HP0.out)
      have x0 : w2.cell? ⟨w.heap.size, 0, none⟩ = some (.int .i64 t.k) := M2.out.cell (HX0.out 0 _ rfl) HNB.out
      have x1 : w2.cell? ⟨w.heap.size, 1, none⟩ = some (.string t.ch) := M2.out.cell (HX0.out 1 _ rfl) HNB.out
      have x2 : w2.cell? ⟨w.heap.size, 2, none⟩ = some (.bool t.nt) := M2.out.cell (HX0.out 2 _ rfl) HNB.out
      have x3 : w2.cell? ⟨w.heap.size, 3, none⟩ = some (.slice tA t.rows.length tc) := M2.out.cell (HX0.out 3 _ rfl) HNB.out
      have x4 : w2.cell? ⟨w.heap.size, 4, none⟩ = some (.int .i64 t.mi) := M2.out.cell (HX0.out 4 _ rfl) HNB.out
      have x5 : w2.cell? ⟨w.heap.size, 5, none⟩ = some (.int .i64 t.ma) := M2.out.cell (HX0.out 5 _ rfl) HNB.out
      have x6 : w2.cell? ⟨w.heap.size, 6, none⟩ = some (.bool t.lz) := M2.out.cell (HX0.out 6 _ rfl) HNB.out
      have x7 : w2.cell? ⟨w.heap.size, 7, none⟩ = some (.slice tB t.kids.length td) := M2.out.cell (HX0.out 7 _ rfl) HNB.out
      have HSZ2 := hide (show w.heap.size + 2 ≤ w2.heap.size by have := M2.out.fr; simpa using this)
      have HNE2 := hide (show w2.heap.size ≠ b by have := M2.out.fr; have h2 : b < w.heap.size := World.block_lt_of_cell? _ _ HS.out.mem.1; simp at this; omega)
      go_wp2_with fail
      go_must (go_region_held3 (fun W => W.cell? ⟨w.heap.size, 0, none⟩ = some (.int .i64 t.k) ∧ W.cell? ⟨w.heap.size, 1, none⟩ = some (.string t.ch) ∧ W.cell? ⟨w.heap.size, 2, none⟩ = some (.bool t.nt) ∧ W.cell? ⟨w.heap.size, 3, none⟩ = some (.slice tA t.rows.length tc) ∧ W.cell? ⟨w.heap.size, 4, none⟩ = some (.int .i64 t.mi) ∧ W.cell? ⟨w.heap.size, 5, none⟩ = some (.int .i64 t.ma) ∧ W.cell? ⟨w.heap.size, 6, none⟩ = some (.bool t.lz) ∧ W.cell? ⟨w.heap.size, 7, none⟩ = some (.slice tB t.kids.length td)) (first | (refine ⟨?_, ?_, ?_, ?_, ?_, ?_, ?_, ?_⟩ <;> (repeat (first | with_reducible assumption | with_reducible refine set_blk ?_ (Nat.succ_ne_self _) | with_reducible refine alloc_blk ?_ | with_reducible refine drew_blk ?_)); done) | go_keep) (first
        | (go_at_call 22; refine (HTQ.out _ (HP2.out.bl (by repeat (first | exact bl_refl _ | refine bl_drew ?_ | refine bl_alloc ?_ _)))).mono ?_; rintro e w3 ⟨rfl, hm3⟩; have hmm := (M2.out.bl (by repeat (first | exact bl_refl _ | refine bl_drew ?_ | refine bl_alloc ?_ _))).trans hm3; have x0 : w3.cell? ⟨w.heap.size, 0, none⟩ = some (.int .i64 t.k) := hmm.cell (HX0.out 0 _ rfl) HNB.out; have x1 : w3.cell? ⟨w.heap.size, 1, none⟩ = some (.string t.ch) := hmm.cell (HX0.out 1 _ rfl) HNB.out; have x2 : w3.cell? ⟨w.heap.size, 2, none⟩ = some (.bool t.nt) := hmm.cell (HX0.out 2 _ rfl) HNB.out; have x3 : w3.cell? ⟨w.heap.size, 3, none⟩ = some (.slice tA t.rows.length tc) := hmm.cell (HX0.out 3 _ rfl) HNB.out; have x4 : w3.cell? ⟨w.heap.size, 4, none⟩ = some (.int .i64 t.mi) := hmm.cell (HX0.out 4 _ rfl) HNB.out; have x5 : w3.cell? ⟨w.heap.size, 5, none⟩ = some (.int .i64 t.ma) := hmm.cell (HX0.out 5 _ rfl) HNB.out; have x6 : w3.cell? ⟨w.heap.size, 6, none⟩ = some (.bool t.lz) := hmm.cell (HX0.out 6 _ rfl) HNB.out; have x7 : w3.cell? ⟨w.heap.size, 7, none⟩ = some (.slice tB t.kids.length td) := hmm.cell (HX0.out 7 _ rfl) HNB.out; have z0 : w3.cell? ⟨w.heap.size + 1, 0, none⟩ = some (.int .i64 0) := hmm.cell (HZ0.out 0 _ rfl) HNB1.out; have z1 : w3.cell? ⟨w.heap.size + 1, 1, none⟩ = some (.string ⟨#[]⟩) := hmm.cell (HZ0.out 1 _ rfl) HNB1.out; have z2 : w3.cell? ⟨w.heap.size + 1, 2, none⟩ = some (.bool false) := hmm.cell (HZ0.out 2 _ rfl) HNB1.out; have z3 : w3.cell? ⟨w.heap.size + 1, 3, none⟩ = some (.slice none 0 0) := hmm.cell (HZ0.out 3 _ rfl) HNB1.out; have z4 : w3.cell? ⟨w.heap.size + 1, 4, none⟩ = some (.int .i64 0) := hmm.cell (HZ0.out 4 _ rfl) HNB1.out; have z5 : w3.cell? ⟨w.heap.size + 1, 5, none⟩ = some (.int .i64 0) := hmm.cell (HZ0.out 5 _ rfl) HNB1.out; have z6 : w3.cell? ⟨w.heap.size + 1, 6, none⟩ = some (.bool false) := hmm.cell (HZ0.out 6 _ rfl) HNB1.out; have z7 : w3.cell? ⟨w.heap.size + 1, 7, none⟩ = some (.slice none 0 0) := hmm.cell (HZ0.out 7 _ rfl) HNB1.out; have hs3 : w.heap.size + 1 < w3.heap.size := Nat.lt_of_lt_of_le HSZ0.out hmm.fr; have hs4 : w.heap.size < w3.heap.size := Nat.lt_of_succ_lt hs3; have hf3 : ∀ o, w3.frozen? ⟨w.heap.size + 1, o, none⟩ = false := (fun o => (hmm.frz (p := ⟨w.heap.size + 1, o, none⟩) HSZ0.out HNB1.out).trans (HFZ0.out o)); have HMM := hide hmm; have HM3 := hide hm3; clear hmm hm3)))
      · have hend := rep_end (mi := (n : Int)) (ma := m) (lz := lz) ((mv8 ((HS.out.self (bl_alloc (bl_alloc (bl_refl w) _) _)).trans HMM.out) HNB1.out (Nat.le_succ _) _ _ _ _ _ _ _ _ _ _ _ _ _ _ _ _).bl (bl_alloc (bl_refl _) _)) HBN.out HN.out HT.out HF.out (show N ≤ w3.heap.size by have := HN.out; omega) (fun j u hu => ks_alloc (W := ((((((((w3.setCell ⟨w.heap.size + 1, 0, none⟩ (.int .i64 7)).setCell ⟨w.heap.size + 1, 1, none⟩ (.string ⟨#[]⟩)).setCell ⟨w.heap.size + 1, 2, none⟩ (.bool false)).setCell ⟨w.heap.size + 1, 3, none⟩ (.slice none 0 0)).setCell ⟨w.heap.size + 1, 4, none⟩ (.int .i64 (n : Int))).setCell ⟨w.heap.size + 1, 5, none⟩ (.int .i64 m)).setCell ⟨w.heap.size + 1, 6, none⟩ (.bool lz)).setCell ⟨w.heap.size + 1, 7, none⟩ (.slice (some ⟨w3.heap.size, 0, none⟩) 1 1))) (T := 25) (cs := [.int .i64 t.k, .string t.ch, .bool t.nt, .slice tA t.rows.length tc, .int .i64 t.mi, .int .i64 t.ma, .bool t.lz, .slice tB t.kids.length td]) (by simp) j u (by rw [← HCS.out]; exact hu))
        have HEND := hide hend
        clear hend
        clear x0 x1 x2 x3 x4 x5 x6 x7
        go_wp2
        refine bodyPost_ret (v := .tuple #[.agg #[.int .i64 7, .string ⟨#[]⟩, .bool false, .slice none 0 0, .int .i64 (n : Int), .int .i64 m, .bool lz, .slice (some ⟨w3.heap.size, 0, none⟩) 1 1], .int .i64 0]) ?_ rfl HEND.out
        rw [results_cell2 rfl]
        go_simp
      · have hend := rep_end (mi := (n : Int)) (ma := m) (lz := lz) (mv8 ((HS.out.self (bl_alloc (bl_alloc (bl_refl w) _) _)).trans HMM.out) HNB1.out (Nat.le_succ _) _ _ _ _ _ _ _ _ _ _ _ _ _ _ _ _) HBN.out HN.out HT.out HF.out (show N ≤ w2.heap.size by have := HN.out; have := HSZ2.out; omega) (fun j u hu => kept8 w3 (n := w.heap.size + 2) (Nat.lt_succ_self _) 0 (.int .i64 7) 1 (.string ⟨#[]⟩) 2 (.bool false) 3 (.slice none 0 0) 4 (.int .i64 (n : Int)) 5 (.int .i64 m) 6 (.bool lz) 7 (.slice (some ⟨w2.heap.size, 0, none⟩) 1 1) ⟨w2.heap.size, j, none⟩ u HSZ2.out (HM3.out.cell (ks_alloc (W := w2.drew) (T := 25) (cs := [.int .i64 t.k, .string t.ch, .bool t.nt, .slice tA t.rows.length tc, .int .i64 t.mi, .int .i64 t.ma, .bool t.lz, .slice tB t.kids.length td]) rfl j u (by rw [← HCS.out]; exact hu)) HNE2.out))
        have HEND := hide hend
        clear hend
        clear x0 x1 x2 x3 x4 x5 x6 x7
        go_wp2
        refine bodyPost_ret (v := .tuple #[.agg #[.int .i64 7, .string ⟨#[]⟩, .bool false, .slice none 0 0, .int .i64 (n : Int), .int .i64 m, .bool lz, .slice (some ⟨w2.heap.size, 0, none⟩) 1 1], .int .i64 0]) ?_ rfl HEND.out
        rw [results_cell2 rfl]
        go_simp
  rw [hq3, if_neg (by decide)] at ho
  have HT3 := hide (fun W (hp : Pl W b s l) => pos_take hp ⟨#[123]⟩ false hq3)
  clear hq3
  subst ho
  go_enter Tryz.func66, Tryz.ntmps66
  go_wp2_with fail
  refine (HT0.out _ HP0.out).mono ?_
  rintro e u0 ⟨rfl, hm⟩
  have N0 : Hid (Mv ((w.alloc (.cells #[.int .i64 t.k, .string t.ch, .bool t.nt, .slice tA t.rows.length tc, .int .i64 t.mi, .int .i64 t.ma, .bool t.lz, .slice tB t.kids.length td] 25)).alloc (.cells #[.int .i64 0, .string ⟨#[]⟩, .bool false, .slice none 0 0, .int .i64 0, .int .i64 0, .bool false, .slice none 0 0] 25)) u0 b s l) := hide hm
  clear hm
  go_wp2_with fail
  refine (HT1.out _ (N0.out.pl HP0.out)).mono ?_
  rintro e u1 ⟨rfl, hm⟩
  have N1 : Hid (Mv ((w.alloc (.cells #[.int .i64 t.k, .string t.ch, .bool t.nt, .slice tA t.rows.length tc, .int .i64 t.mi, .int .i64 t.ma, .bool t.lz, .slice tB t.kids.length td] 25)).alloc (.cells #[.int .i64 0, .string ⟨#[]⟩, .bool false, .slice none 0 0, .int .i64 0, .int .i64 0, .bool false, .slice none 0 0] 25)) u1 b s l) := hide (N0.out.trans hm)
  clear hm
  go_wp2_with fail
  refine (HT2.out _ (N1.out.pl HP0.out)).mono ?_
  rintro e u2 ⟨rfl, hm⟩
  have N2 : Hid (Mv ((w.alloc (.cells #[.int .i64 t.k, .string t.ch, .bool t.nt, .slice tA t.rows.length tc, .int .i64 t.mi, .int .i64 t.ma, .bool t.lz, .slice tB t.kids.length td] 25)).alloc (.cells #[.int .i64 0, .string ⟨#[]⟩, .bool false, .slice none 0 0, .int .i64 0, .int .i64 0, .bool false, .slice none 0 0] 25)) u2 b s l) := hide (N1.out.trans hm)
  clear hm
  go_wp2_with fail
  refine (HT3.out _ (N2.out.pl HP0.out)).mono ?_
  rintro e u3 ⟨rfl, hm⟩
  have N3 : Hid (Mv ((w.alloc (.cells #[.int .i64 t.k, .string t.ch, .bool t.nt, .slice tA t.rows.length tc, .int .i64 t.mi, .int .i64 t.ma, .bool t.lz, .slice tB t.kids.length td] 25)).alloc (.cells #[.int .i64 0, .string ⟨#[]⟩, .bool false, .slice none 0 0, .int .i64 0, .int .i64 0, .bool false, .slice none 0 0] 25)) u3 b s l) := hide (N2.out.trans hm)
  clear hm
  have x0 : u3.cell? ⟨w.heap.size, 0, none⟩ = some (.int .i64 t.k) := N3.out.cell (HX0.out 0 _ rfl) HNB.out
  have x1 : u3.cell? ⟨w.heap.size, 1, none⟩ = some (.string t.ch) := N3.out.cell (HX0.out 1 _ rfl) HNB.out
  have x2 : u3.cell? ⟨w.heap.size, 2, none⟩ = some (.bool t.nt) := N3.out.cell (HX0.out 2 _ rfl) HNB.out
  have x3 : u3.cell? ⟨w.heap.size, 3, none⟩ = some (.slice tA t.rows.length tc) := N3.out.cell (HX0.out 3 _ rfl) HNB.out
  have x4 : u3.cell? ⟨w.heap.size, 4, none⟩ = some (.int .i64 t.mi) := N3.out.cell (HX0.out 4 _ rfl) HNB.out
  have x5 : u3.cell? ⟨w.heap.size, 5, none⟩ = some (.int .i64 t.ma) := N3.out.cell (HX0.out 5 _ rfl) HNB.out
  have x6 : u3.cell? ⟨w.heap.size, 6, none⟩ = some (.bool t.lz) := N3.out.cell (HX0.out 6 _ rfl) HNB.out
  have x7 : u3.cell? ⟨w.heap.size, 7, none⟩ = some (.slice tB t.kids.length td) := N3.out.cell (HX0.out 7 _ rfl) HNB.out
  have z0 : u3.cell? ⟨w.heap.size + 1, 0, none⟩ = some (.int .i64 0) := N3.out.cell (HZ0.out 0 _ rfl) HNB1.out
  have z1 : u3.cell? ⟨w.heap.size + 1, 1, none⟩ = some (.string ⟨#[]⟩) := N3.out.cell (HZ0.out 1 _ rfl) HNB1.out
  have z2 : u3.cell? ⟨w.heap.size + 1, 2, none⟩ = some (.bool false) := N3.out.cell (HZ0.out 2 _ rfl) HNB1.out
  have z3 : u3.cell? ⟨w.heap.size + 1, 3, none⟩ = some (.slice none 0 0) := N3.out.cell (HZ0.out 3 _ rfl) HNB1.out
  have z4 : u3.cell? ⟨w.heap.size + 1, 4, none⟩ = some (.int .i64 0) := N3.out.cell (HZ0.out 4 _ rfl) HNB1.out
  have z5 : u3.cell? ⟨w.heap.size + 1, 5, none⟩ = some (.int .i64 0) := N3.out.cell (HZ0.out 5 _ rfl) HNB1.out
  have z6 : u3.cell? ⟨w.heap.size + 1, 6, none⟩ = some (.bool false) := N3.out.cell (HZ0.out 6 _ rfl) HNB1.out
  have z7 : u3.cell? ⟨w.heap.size + 1, 7, none⟩ = some (.slice none 0 0) := N3.out.cell (HZ0.out 7 _ rfl) HNB1.out
  have hf3 : ∀ o, u3.frozen? ⟨w.heap.size + 1, o, none⟩ = false := fun o => (N3.out.frz (p := ⟨w.heap.size + 1, o, none⟩) HSZ0.out HNB1.out).trans (HFZ0.out o)
  have HMV := hide ((HS.out.self (bl_alloc (bl_alloc (bl_refl w) _) _)).trans N3.out)
  go_wp2
  have hw := mv8 HMV.out HNB1.out (Nat.le_succ _) 0 (.int .i64 t.k) 1 (.string t.ch) 2 (.bool t.nt) 3 (.slice tA t.rows.length tc) 4 (.int .i64 t.mi) 5 (.int .i64 t.ma) 6 (.bool t.lz) 7 (.slice tB t.kids.length td)
  refine bodyPost_ret (v := .tuple #[.agg #[.int .i64 t.k, .string t.ch, .bool t.nt, .slice tA t.rows.length tc, .int .i64 t.mi, .int .i64 t.ma, .bool t.lz, .slice tB t.kids.length td], .int .i64 0]) ?_ rfl ⟨t, by rw [HTV.out], hw, rx_kept HT.out HF.out (mv_kept hw HBN.out), HF.out, rfl⟩
  rw [results_cell2 rfl]
  go_simp
end
end Go.Proofs.YtcnliipkfccohabGreat
end
