/- A row of integers that may begin inside its block: append, cut at either end. No condition but short rows. -/
import Derived.Test.YtmckmebkoiglfaaPastQ
import Derived.Test.YtmckmebkoiglfaaApp
import Derived.ArgAppend
namespace Go.Proofs.Ytmckmebkoiglfaa
open Go.ChangeShapes Go.WideShapes Go.ChangeAt Go.RowKit
/-- The slice reads as xs, all of its room in its block. -/
def OffAt (w : World) (v : Value) (xs : List Int) : Prop :=
  (v = .slice none 0 0 ∧ xs = []) ∨
  ∃ g off c cur, v = .slice (some ⟨g, off, none⟩) xs.length c ∧ w.heap[g]? = some (.cells cur 3) ∧ xs.length ≤ c ∧ c ≤ maxLen ∧ off + c ≤ cur.size ∧ ∀ j (h : j < xs.length), cur[off + j]? = some (.int .i64 xs[j])
theorem off_len {w : World} {v : Value} {xs : List Int} (h : OffAt w v xs) : ∃ a c, v = .slice a xs.length c := by
  rcases h with ⟨rfl, rfl⟩ | ⟨g, off, c, cur, rfl, _⟩
  · exact ⟨none, 0, rfl⟩
  · exact ⟨_, c, rfl⟩
theorem off_kept {w w' : World} {v : Value} {xs : List Int} (h : OffAt w v xs) (hk : ∀ g, v.ownBlock = some g → w'.heap[g]? = w.heap[g]?) : OffAt w' v xs := by
  rcases h with h | ⟨g, off, c, cur, rfl, h1, h2⟩
  · exact .inl h
  · exact .inr ⟨g, off, c, cur, rfl, by rw [hk g rfl]; exact h1, h2⟩
theorem off_lt {w : World} {v : Value} {xs : List Int} (h : OffAt w v xs) : ∀ g, v.ownBlock = some g → g < w.heap.size := by
  intro g hg
  rcases h with ⟨rfl, _⟩ | ⟨g', off, c, cur, rfl, h1, _⟩
  · simp [Value.ownBlock] at hg
  · injection hg with hg
    have hg' : g' = g := hg
    subst hg'
    exact (Array.getElem?_eq_some_iff.1 h1).1
theorem off_own {w : World} {base n : Nat} {v : Value} {xs : List Int} (h : w.ownsRow base 3 1 v n (xs.map (Value.int .i64))) : OffAt w v xs := by
  have hl : xs.length = n := by have := h.1; simpa using this
  rcases h.2 with ⟨rfl, rfl⟩ | ⟨g, cap, cur, rfl, _, hh, h1, h2, h3, h4⟩
  · exact .inl ⟨rfl, List.eq_nil_of_length_eq_zero hl⟩
  · refine .inr ⟨g, 0, cap, cur, by rw [hl], hh, by omega, h2, by omega, fun j hj => ?_⟩
    have h5 : (cur.toList.take (n * 1))[j]? = some (.int .i64 xs[j]) := by rw [h4]; simp [hj]
    rw [List.getElem?_take] at h5
    split at h5
    · simpa using h5
    · cases h5
/-- What an append leaves: the row with one more, its block as before or a new one. -/
structure Grew (w : World) (v : Value) (xs : List Int) (x : Int) (v' : Value) (w' : World) : Prop where
  at' : OffAt w' v' (xs ++ [x])
  grown : w.grownBy w' v.ownBlock
  blk : v'.ownBlock = v.ownBlock ∨ ∃ k, v'.ownBlock = some k ∧ w.heap.size ≤ k
section
theorem run_off (w0 : World) (ty : TypeId) (i : TypeInfo) (hi : Try.prog.info? 3 = some i) (hz : i.zero = some (.int .i64 0)) (hsize : i.size = 1) (hby : i.bytes = 8)
    (v : Value) (xs : List Int) (x : Int) (h : OffAt w0 v xs) (hl : xs.length ≤ 1000) :
    ∃ v' w', (Builtin.append_ #[22, 22] ty #[v, .slice (some ⟨w0.heap.size, 0, none⟩) 1 1]).run Try.prog (w0.alloc (.cells #[.int .i64 x] 3)) = .ok v' w' ∧ Grew w0 v xs x v' w' := by
  have ht := Try.underlying22
  have hgn : ∀ {row : Option Nat} {w' : World}, (w0.alloc (.cells #[.int .i64 x] 3)).grownBy w' row → w0.grownBy w' row := fun {row w'} h3 =>
    ⟨h3.os, h3.tape, h3.output, Nat.le_trans (by simp) h3.size, fun k hk hne => (h3.block k (by simp; omega) hne).trans (Below.heap_alloc w0 _ k hk)⟩
  rcases h with ⟨rfl, rfl⟩ | ⟨g, off, c, cur, rfl, h1, h2, h3, h4, h5⟩
  · have hown : (w0.alloc (.cells #[.int .i64 x] 3)).ownsRow 0 3 1 (.slice none 0 0) 0 [] := ⟨rfl, .inl ⟨rfl, rfl⟩⟩
    obtain ⟨v', w', hr, h2, h3, h4, h5⟩ := run_append_own_at (P := Try.prog) (w0.alloc (.cells #[.int .i64 x] 3)) 0 22 ty 3 i (.int .i64 0) 1 8 ht hi hz hsize hby rfl (by decide) (.slice none 0 0) 0 [] hown ⟨w0.heap.size, 0, none⟩ 1 1 [.int .i64 x] rfl (fun j u hu => cells_lit w0 #[.int .i64 x] 3 j u hu) (by simp [Value.oneCell']) (by simp [maxLen]) (by omega) (Nat.zero_le _)
    refine ⟨v', w', hr, off_own (xs := [x]) h2, hgn h3, ?_⟩
    rcases h5 with h5 | h5
    · exact .inl h5
    · exact .inr ⟨_, h5, by simp⟩
  · have hg : g < w0.heap.size := (Array.getElem?_eq_some_iff.1 h1).1
    have h1' : (w0.alloc (.cells #[.int .i64 x] 3)).heap[g]? = some (.cells cur 3) := (Below.heap_alloc w0 _ g hg).trans h1
    by_cases hroom : xs.length + 1 ≤ c
    · have hc : (w0.alloc (.cells #[.int .i64 x] 3)).cell? ⟨g, off + xs.length, none⟩ = cur[off + xs.length]? := by rw [cell_of_row _ g _ _ _ _ h1']
      have hr := run_append_room_cells (P := Try.prog) (w0.alloc (.cells #[.int .i64 x] 3)) 22 ty 3 i ht hi g off xs.length c ⟨w0.heap.size, 0, none⟩ 1 1 [.int .i64 x] (by rw [hsize]; rfl)
        (fun j u hu => cells_lit w0 #[.int .i64 x] 3 j u hu) (by simp [Value.oneCell']) hroom
        (fun j hj => by
          have : j = 0 := by simpa using hj
          subst this
          rw [hsize, Nat.mul_one, Nat.add_zero, hc]; simp; omega)
        (fun j hj => by simp [World.frozen?, h1'])
      rw [hsize, Nat.mul_one] at hr
      refine ⟨_, _, hr, ?_, hgn (grown_set (grown_refl _ (some g)) _ _), .inl rfl⟩
      refine .inr ⟨g, off, c, cur.setIfInBounds (off + xs.length) (.int .i64 x), by simp, heap_set h1' _ _, by simp; omega, h3, by simpa using h4, fun j hj => ?_⟩
      by_cases hj2 : j < xs.length
      · rw [Array.getElem?_setIfInBounds_ne (by omega), h5 j hj2]
        simp [List.getElem_append_left, hj2]
      · have : j = xs.length := by simp at hj; omega
        subst this
        rw [Array.getElem?_setIfInBounds_self_of_lt (by omega)]
        simp
    · obtain ⟨v', w', hr, ho, hgr⟩ := run_append_arg_grows (P := Try.prog) (w0.alloc (.cells #[.int .i64 x] 3)) 22 ty 3 i (.int .i64 0) 1 8 ht hi hz hsize hby rfl (by decide) ⟨g, off, none⟩ xs.length c (xs.map (Value.int .i64)) (by simp)
        (fun j u hu => by
          rw [addr_add, cell_of_row _ g _ _ _ _ h1']
          have hj : j < xs.length := by have := (List.getElem?_eq_some_iff.1 hu).1; simpa using this
          rw [h5 j hj]; simpa [hj] using hu)
        ⟨w0.heap.size, 0, none⟩ 1 1 [.int .i64 x] rfl (fun j u hu => cells_lit w0 #[.int .i64 x] 3 j u hu) (by omega) (by simp only [maxLen]; omega) (by omega)
      have ho' : w'.ownsRow (w0.alloc (.cells #[.int .i64 x] 3)).heap.size 3 1 v' (xs.length + 1) ((xs ++ [x]).map (Value.int .i64)) := by rw [List.map_append]; exact ho
      have hgr2 : (w0.alloc (.cells #[.int .i64 x] 3)).grownBy w' (some g) := ⟨hgr.os, hgr.tape, hgr.output, hgr.size, fun k hk _ => hgr.block k hk (by simp)⟩
      obtain ⟨g', c', hv', hb', _⟩ := own_pos ho' (by omega)
      refine ⟨v', w', hr, off_own ho', hgn hgr2, .inr ⟨g', by rw [hv']; rfl, by simp at hb'; omega⟩⟩
theorem wpList_off {ops : Array Oper} {rest : List Oper} {o : Oper} {a : Act} {Q : Exit → Act → World → Prop} (w0 : World) (hgd : o.guard = none) (s y : Operand)
    (ho : o.op = .call { callee := .builtin .append, args := #[s, y], argTypes := #[22, 22] })
    (i : TypeInfo) (hi : Try.prog.info? 3 = some i) (hz : i.zero = some (.int .i64 0)) (hsize : i.size = 1) (hby : i.bytes = 8)
    (v : Value) (xs : List Int) (x : Int) (hs : a.eval s = v) (hat : OffAt w0 v xs) (hl : xs.length ≤ 1000) (hy : a.eval y = .slice (some ⟨w0.heap.size, 0, none⟩) 1 1)
    (h : ∀ v' w', Grew w0 v xs x v' w' → wpList Try.prog ops Q rest (a.put o.dst v') w') :
    wpList Try.prog ops Q (o :: rest) a (w0.alloc (.cells #[.int .i64 x] 3)) := by
  obtain ⟨v', w', hr, hg⟩ := run_off w0 o.type i hi hz hsize hby v xs x hat hl
  refine wpList_plain hgd fun K hK => ?_
  unfold Oper.wp execOp
  simp only [ho, resolve, invoke, builtin, Sem.run_bind, Sem.run_pure, Result.andThen_ok, List.map_toArray, List.map_cons, List.map_nil, hs, hy, hr]
  exact hK _ _ (h v' w' hg)
end
/-- Its last element. -/
theorem off_last {w : World} {a : Option Addr} {n c : Nat} {xs : List Int} {y : Int} (h : OffAt w (.slice a n c) (xs ++ [y])) (hn : xs.length + 1 = n) : ∃ g off, a = some ⟨g, off, none⟩ ∧ n ≤ c ∧ c ≤ maxLen ∧ w.cell? ⟨g, off + xs.length, none⟩ = some (.int .i64 y) := by
  rcases h with ⟨_, h⟩ | ⟨g, off, c', cur, hv, h1, h2, h3, h4, h5⟩
  · simp at h
  · injection hv with hv1 hv2 hv3
    subst hv1 hv3
    refine ⟨g, off, rfl, by simp at h2; omega, h3, ?_⟩
    rw [cell_of_row w g _ _ _ _ h1, h5 xs.length (by simp)]
    simp
theorem off_cut {w : World} {a : Option Addr} {n c : Nat} {xs : List Int} {y : Int} (h : OffAt w (.slice a n c) (xs ++ [y])) : OffAt w (.slice a xs.length c) xs := by
  rcases h with ⟨_, h⟩ | ⟨g, off, c', cur, hv, h1, h2, h3, h4, h5⟩
  · simp at h
  · injection hv with hv1 hv2 hv3
    subst hv1 hv3
    refine .inr ⟨g, off, c, cur, rfl, h1, by simp at h2; omega, h3, h4, fun j hj => ?_⟩
    rw [h5 j (by simp; omega)]
    simp [List.getElem_append_left, hj]
theorem off_tail {w : World} {a : Option Addr} {n c : Nat} {y : Int} {xs : List Int} (h : OffAt w (.slice a n c) (y :: xs)) : OffAt w (.slice (if c = 1 then a else a.map (·.add (1 * 1))) xs.length (c - 1)) xs ∧ 1 ≤ c ∧ n = xs.length + 1 ∧ ∀ b, (Value.slice (if c = 1 then a else a.map (·.add (1 * 1))) xs.length (c - 1)).ownBlock = some b → (Value.slice a n c).ownBlock = some b := by
  rcases h with ⟨_, h⟩ | ⟨g, off, c', cur, hv, h1, h2, h3, h4, h5⟩
  · cases h
  · injection hv with hv1 hv2 hv3
    subst hv1 hv3
    have hadd : (⟨g, off, none⟩ : Addr).add (1 * 1) = ⟨g, off + 1, none⟩ := by simp [Addr.add]
    simp only [List.length_cons] at h2 hv2
    refine ⟨?_, by omega, hv2, ?_⟩
    · by_cases hc : c = 1
      · have hx : xs = [] := List.eq_nil_of_length_eq_zero (by omega)
        subst hx hc
        exact .inr ⟨g, off, 0, cur, rfl, h1, by simp, by omega, by omega, fun j hj => by simp at hj⟩
      · rw [if_neg hc]
        refine .inr ⟨g, off + 1, c - 1, cur, by simp [hadd], h1, by omega, by omega, by omega, fun j hj => ?_⟩
        have := h5 (j + 1) (by simpa using hj)
        rw [show off + (j + 1) = off + 1 + j by omega] at this
        simpa using this
    · intro b hb
      by_cases hc : c = 1
      · rw [if_pos hc] at hb; exact hb
      · rw [if_neg hc] at hb; simp only [Option.map_some, hadd] at hb; exact hb
end Go.Proofs.Ytmckmebkoiglfaa
