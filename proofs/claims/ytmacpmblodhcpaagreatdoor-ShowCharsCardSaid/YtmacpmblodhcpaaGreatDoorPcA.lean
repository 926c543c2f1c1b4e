/- Plain facts: what is told of a tree that may be is read as that tree. No condition. -/
import Derived.Test.YtmacpmblodhcpaaGreatDoorZbB
import Derived.Test.YtmacpmblodhcpaaGreatDoorZhE
namespace Go.Proofs.YtmacpmblodhcpaaGreatDoor
open SetM
open Go.Lib (decDigits)
set_option linter.unusedVariables false
theorem proper_is {c : List UInt8} (h : properB c = true) : c ≠ [] ∧ contH c = false ∧ firstN c = c.length := by
  unfold properB at h
  rw [decide_eq_true_iff] at h
  obtain ⟨h1, h2, h3⟩ := h
  cases c with
  | nil => simp at h1
  | cons a r => exact ⟨by simp, h2, h3⟩
theorem hd_proper {c u : List UInt8} (h : properB c = true) (hu : contH u = false) : hdC (c ++ u) = c ∧ tlC (c ++ u) = u ∧ contH (c ++ u) = false := by
  obtain ⟨h1, h2, h3⟩ := proper_is h
  rw [hd_app h1 hu, tl_app h1 hu]
  refine ⟨?_, ?_, contH_app h2 hu⟩
  · unfold hdC; rw [h3, List.take_length]
  · unfold tlC; rw [h3, List.drop_length]; rfl
theorem ne_mark {mk c : List UInt8} {y : UInt8} (h : mk.contains (c.headD 0) = true) (hy : mk.contains y = false) : (c == [y]) = false := by
  rw [Bool.eq_false_iff]
  intro q
  rw [beq_iff_eq.1 q] at h
  rw [show ([y] : List UInt8).headD 0 = y from rfl, hy] at h
  cases h
theorem ne_plain {mk c : List UInt8} {y : UInt8} (h : mk.contains (c.headD 0) = false) (hy : mk.contains y = true) : (c == [y]) = false := by
  rw [Bool.eq_false_iff]
  intro q
  rw [beq_iff_eq.1 q] at h
  rw [show ([y] : List UInt8).headD 0 = y from rfl, hy] at h
  cases h
theorem bsC_self (b : ByteArray) : bsC b.data.toList = b := by
  apply ByteArray.ext; apply Array.ext'; rw [bsC_data]
/-- The three ways in which a character is told. -/
theorem chS_ways (mk : List UInt8) (c : List UInt8) :
    (∃ y z : UInt8, c = [z] ∧ chSh mk c = [92, y] ∧ ((y = 110 ∧ z = 10) ∨ (y = 114 ∧ z = 13) ∨ (y = 116 ∧ z = 9) ∨ (y = 102 ∧ z = 12) ∨ (y = 118 ∧ z = 11))) ∨
    (mk.contains (c.headD 0) = true ∧ chSh mk c = 92 :: c) ∨ (mk.contains (c.headD 0) = false ∧ chSh mk c = c) := by
  unfold chSh
  split
  · rename_i h; exact .inl ⟨110, 10, h, rfl, by simp⟩
  split
  · rename_i h; exact .inl ⟨114, 13, h, rfl, by simp⟩
  split
  · rename_i h; exact .inl ⟨116, 9, h, rfl, by simp⟩
  split
  · rename_i h; exact .inl ⟨102, 12, h, rfl, by simp⟩
  split
  · rename_i h; exact .inl ⟨118, 11, h, rfl, by simp⟩
  split
  · rename_i h; exact .inr (.inl ⟨h, rfl⟩)
  · rename_i h; exact .inr (.inr ⟨Bool.eq_false_iff.2 h, rfl⟩)
theorem esc_mark {mk c : List UInt8} (hm : ∀ y ∈ mk, letZ y.toNat = false ∧ digZ y.toNat = false ∧ y ≠ 110 ∧ y ≠ 114 ∧ y ≠ 116 ∧ y ≠ 102 ∧ y ≠ 118) (h : mk.contains (c.headD 0) = true) (h0 : c ≠ []) : escP (bsC c) = some (bsC c) := by
  have hmem : c.headD 0 ∈ mk := by simpa using h
  have hne : ∀ y : UInt8, (y = 110 ∨ y = 114 ∨ y = 116 ∨ y = 102 ∨ y = 118) → (c == [y]) = false := by
    intro y hy
    refine ne_mark h ?_
    rw [Bool.eq_false_iff]
    intro q
    have := hm y (by simpa using q)
    rcases hy with rfl | rfl | rfl | rfl | rfl <;> simp at this
  have hno : escNo (bsC c) = false := by
    unfold escNo
    rw [bsC_data]
    match c, h0, hmem with
    | [y], _, hmem =>
      have := hm y hmem
      show (letZ y.toNat || digZ y.toNat) = false
      rw [this.1, this.2.1]; rfl
    | _ :: _ :: _, _, _ => rfl
  unfold escP
  rw [bsC_data, hne 110 (by simp), hne 114 (by simp), hne 116 (by simp), hne 102 (by simp), hne 118 (by simp), if_neg (by decide), if_neg (by decide), if_neg (by decide), if_neg (by decide), if_neg (by decide), if_neg (by simpa using h0), hno, if_neg (by decide)]
theorem mkA_ok : ∀ y ∈ mkA, letZ y.toNat = false ∧ digZ y.toNat = false ∧ y ≠ 110 ∧ y ≠ 114 ∧ y ≠ 116 ∧ y ≠ 102 ∧ y ≠ 118 := by decide
theorem mkC_ok : ∀ y ∈ mkC, letZ y.toNat = false ∧ digZ y.toNat = false ∧ y ≠ 110 ∧ y ≠ 114 ∧ y ≠ 116 ∧ y ≠ 102 ∧ y ≠ 118 := by decide
/-- What stands at a term's beginning. -/
structure HdOk (l : List UInt8) : Prop where
  ct : contH l = false
  en : endB l = false
  q1 : (hdC l == [42]) = false
  q2 : (hdC l == [43]) = false
  q3 : (hdC l == [63]) = false
  q4 : (hdC l == [123]) = false
theorem HdOk.stop {l : List UInt8} (h : HdOk l) : Stop l := ⟨h.ct, h.q1, h.q2, h.q3, h.q4⟩
theorem hdok_sign {y : UInt8} {u : List UInt8} (hu : contH u = false) (hy : y = 46 ∨ y = 94 ∨ y = 36 ∨ y = 92 ∨ y = 40 ∨ y = 91) : HdOk (y :: u) := by
  obtain ⟨h1, h2⟩ := hd1 (y := y) hu
  refine ⟨?_, ?_, ?_, ?_, ?_, ?_⟩
  · rcases hy with rfl | rfl | rfl | rfl | rfl | rfl <;> rfl
  · unfold endB
    rw [h1]
    rcases hy with rfl | rfl | rfl | rfl | rfl | rfl <;> rfl
  all_goals (rw [h1]; rcases hy with rfl | rfl | rfl | rfl | rfl | rfl <;> rfl)
theorem ch_atom {deep : Bool} {pat : List UInt8 → Res} {ch : ByteArray} {u : List UInt8} (h : properB ch.data.toList = true) (hu : contH u = false) : atomP deep pat (chSh mkA ch.data.toList ++ u) = .ok (chX ch) u ∧ HdOk (chSh mkA ch.data.toList ++ u) ∧ (hdC (chSh mkA ch.data.toList ++ u) == [94]) = false ∧ (hdC (chSh mkA ch.data.toList ++ u) == [36]) = false := by
  obtain ⟨c, hc⟩ : ∃ c, ch.data.toList = c := ⟨_, rfl⟩
  have hch : ch = bsC c := by rw [← hc, bsC_self]
  rw [hch, bsC_data]
  rw [hc] at h
  obtain ⟨p1, p2, p3⟩ := proper_is h
  obtain ⟨e1, e2, e3⟩ := hd_proper h hu
  rcases chS_ways mkA c with ⟨y, z, rfl, hs, hyz⟩ | ⟨hm, hs⟩ | ⟨hm, hs⟩
  · rw [hs]
    have hyc : contH (y :: u) = false := by rcases hyz with ⟨rfl, rfl⟩ | ⟨rfl, rfl⟩ | ⟨rfl, rfl⟩ | ⟨rfl, rfl⟩ | ⟨rfl, rfl⟩ <;> rfl
    obtain ⟨a1, a2⟩ := hd1 (y := 92) hyc
    obtain ⟨b1, b2⟩ := hd1 (y := y) hu
    refine ⟨?_, hdok_sign hyc (by simp), by show (hdC (92 :: y :: u) == _) = _; rw [a1]; rfl, by show (hdC (92 :: y :: u) == _) = _; rw [a1]; rfl⟩
    show atomP deep pat (92 :: y :: u) = _
    unfold atomP
    rw [a1, a2, if_neg (by decide), if_neg (by decide), if_neg (by decide), if_pos (by decide)]
    unfold bakP
    rw [b1, b2]
    rcases hyz with ⟨rfl, rfl⟩ | ⟨rfl, rfl⟩ | ⟨rfl, rfl⟩ | ⟨rfl, rfl⟩ | ⟨rfl, rfl⟩ <;> rfl
  · rw [hs]
    obtain ⟨a1, a2⟩ := hd1 (y := 92) e3
    refine ⟨?_, hdok_sign e3 (by simp), by show (hdC (92 :: (c ++ u)) == _) = _; rw [a1]; rfl, by show (hdC (92 :: (c ++ u)) == _) = _; rw [a1]; rfl⟩
    show atomP deep pat (92 :: (c ++ u)) = _
    unfold atomP
    rw [a1, a2, if_neg (by decide), if_neg (by decide), if_neg (by decide), if_pos (by decide)]
    unfold bakP
    rw [e1, e2, ne_mark hm (show mkA.contains 98 = false by decide), ne_mark hm (show mkA.contains 66 = false by decide), ne_mark hm (show mkA.contains 100 = false by decide), ne_mark hm (show mkA.contains 119 = false by decide), ne_mark hm (show mkA.contains 115 = false by decide), ne_mark hm (show mkA.contains 68 = false by decide), ne_mark hm (show mkA.contains 87 = false by decide), ne_mark hm (show mkA.contains 83 = false by decide), esc_mark mkA_ok hm p1]
    rfl
  · rw [hs]
    have n : ∀ y : UInt8, mkA.contains y = true → (c == [y]) = false := fun y hy => ne_plain hm hy
    refine ⟨?_, ⟨e3, ?_, by rw [e1]; exact n 42 (by decide), by rw [e1]; exact n 43 (by decide), by rw [e1]; exact n 63 (by decide), by rw [e1]; exact n 123 (by decide)⟩, by rw [e1]; exact n 94 (by decide), by rw [e1]; exact n 36 (by decide)⟩
    · unfold atomP
      rw [e1, e2, n 46 (by decide), n 40 (by decide), n 91 (by decide), n 92 (by decide), n 42 (by decide), n 43 (by decide), n 63 (by decide), n 123 (by decide)]
      rfl
    · unfold endB
      rw [e1, n 124 (by decide), n 41 (by decide)]
      have : (c ++ u).isEmpty = false := by
        cases c with
        | nil => exact absurd rfl p1
        | cons a r => rfl
      rw [this]; rfl
/-- A character of a class. -/
theorem ch_item {ch : ByteArray} {u : List UInt8} (h : properB ch.data.toList = true) (hu : contH u = false) : itemP (chSh mkC ch.data.toList ++ u) = some ([], ch, u) ∧ contH (chSh mkC ch.data.toList ++ u) = false ∧ (hdC (chSh mkC ch.data.toList ++ u) == [45]) = false ∧ (hdC (chSh mkC ch.data.toList ++ u) == [93]) = false ∧ (hdC (chSh mkC ch.data.toList ++ u) == [94]) = false ∧ chSh mkC ch.data.toList ++ u ≠ [] := by
  obtain ⟨c, hc⟩ : ∃ c, ch.data.toList = c := ⟨_, rfl⟩
  have hch : ch = bsC c := by rw [← hc, bsC_self]
  rw [hch, bsC_data]
  rw [hc] at h
  obtain ⟨p1, p2, p3⟩ := proper_is h
  obtain ⟨e1, e2, e3⟩ := hd_proper h hu
  rcases chS_ways mkC c with ⟨y, z, rfl, hs, hyz⟩ | ⟨hm, hs⟩ | ⟨hm, hs⟩
  · rw [hs]
    have hyc : contH (y :: u) = false := by rcases hyz with ⟨rfl, rfl⟩ | ⟨rfl, rfl⟩ | ⟨rfl, rfl⟩ | ⟨rfl, rfl⟩ | ⟨rfl, rfl⟩ <;> rfl
    obtain ⟨a1, a2⟩ := hd1 (y := 92) hyc
    obtain ⟨b1, b2⟩ := hd1 (y := y) hu
    refine ⟨?_, rfl, by show (hdC (92 :: y :: u) == _) = _; rw [a1]; rfl, by show (hdC (92 :: y :: u) == _) = _; rw [a1]; rfl, by show (hdC (92 :: y :: u) == _) = _; rw [a1]; rfl, by simp⟩
    show itemP (92 :: y :: u) = _
    unfold itemP
    rw [a1, a2, if_pos (by decide), b1, b2]
    rcases hyz with ⟨rfl, rfl⟩ | ⟨rfl, rfl⟩ | ⟨rfl, rfl⟩ | ⟨rfl, rfl⟩ | ⟨rfl, rfl⟩ <;> rfl
  · rw [hs]
    obtain ⟨a1, a2⟩ := hd1 (y := 92) e3
    refine ⟨?_, rfl, by show (hdC (92 :: (c ++ u)) == _) = _; rw [a1]; rfl, by show (hdC (92 :: (c ++ u)) == _) = _; rw [a1]; rfl, by show (hdC (92 :: (c ++ u)) == _) = _; rw [a1]; rfl, by simp⟩
    show itemP (92 :: (c ++ u)) = _
    unfold itemP
    rw [a1, a2, if_pos (by decide), e1, e2, ne_mark hm (show mkC.contains 100 = false by decide), ne_mark hm (show mkC.contains 119 = false by decide), ne_mark hm (show mkC.contains 115 = false by decide), esc_mark mkC_ok hm p1]
    rfl
  · rw [hs]
    have n : ∀ y : UInt8, mkC.contains y = true → (c == [y]) = false := fun y hy => ne_plain hm hy
    refine ⟨?_, e3, by rw [e1]; exact n 45 (by decide), by rw [e1]; exact n 93 (by decide), by rw [e1]; exact n 94 (by decide), by simp [p1]⟩
    unfold itemP
    rw [e1, e2, n 92 (by decide), if_neg (by decide), if_neg (by simpa using p1)]
theorem rowB_parts {r : Rw} (h : rowB r = true) : properB r.1.data.toList = true ∧ properB r.2.data.toList = true ∧ bl r.2 r.1 = false := by
  unfold rowB at h
  simp only [Bool.and_eq_true, Bool.not_eq_true'] at h
  exact ⟨h.1.1, h.1.2, h.2⟩
theorem proper_size {c : ByteArray} (h : properB c.data.toList = true) : c.size ≠ 0 := by
  intro h0
  have : c.data.toList = [] := List.eq_nil_of_length_eq_zero ((Array.length_toList).trans h0)
  exact (proper_is h).1 this
theorem row_read {r : Rw} (hb : rowB r = true) {u : List UInt8} (hu : contH u = false) (hq : (hdC u == [45]) = false) : rowsP (rowS r ++ u) = some ([r], u) ∧ contH (rowS r ++ u) = false ∧ (hdC (rowS r ++ u) == [45]) = false ∧ (hdC (rowS r ++ u) == [93]) = false ∧ (hdC (rowS r ++ u) == [94]) = false ∧ rowS r ++ u ≠ [] := by
  obtain ⟨h1, h2, h3⟩ := rowB_parts hb
  unfold rowS
  by_cases he : r.2 = r.1
  · rw [if_pos he, List.append_nil]
    obtain ⟨a1, a2, a3, a4, a5, a6⟩ := ch_item h1 hu
    refine ⟨?_, a2, a3, a4, a5, a6⟩
    unfold rowsP
    rw [a1]
    simp only
    rw [if_neg (proper_size h1), if_neg (by unfold rngP; rw [hq]; simp)]
    obtain ⟨r1, r2⟩ := r
    simp only at he
    rw [he]
  · rw [if_neg he, List.append_assoc, List.cons_append]
    obtain ⟨b1, b2, b3, b4, b5, b6⟩ := ch_item h2 hu
    obtain ⟨d1, d2⟩ := hd1 (y := 45) b2
    obtain ⟨a1, a2, a3, a4, a5, a6⟩ := ch_item (u := 45 :: (chSh mkC r.2.data.toList ++ u)) h1 rfl
    refine ⟨?_, a2, a3, a4, a5, a6⟩
    unfold rowsP
    rw [a1]
    simp only
    have hr : rngP (45 :: (chSh mkC r.2.data.toList ++ u)) = true := by
      unfold rngP
      rw [d1, d2, b4]
      cases hq2 : chSh mkC r.2.data.toList ++ u with
      | nil => exact absurd hq2 b6
      | cons a l => rfl
    rw [if_neg (proper_size h1), if_pos hr, d2, b1]
    simp only
    rw [if_neg (by rw [h3]; simp)]
theorem rows_read : ∀ (rows : List Rw), (∀ r ∈ rows, rowB r = true) → ∀ (acc : List Rw) (f : Nat) (u : List UInt8), contH u = false → rows.length < f →
    clsP f acc (rows.flatMap rowS ++ 93 :: u) = some (acc ++ rows, u) ∧ contH (rows.flatMap rowS ++ 93 :: u) = false ∧ (hdC (rows.flatMap rowS ++ 93 :: u) == [45]) = false ∧ (hdC (rows.flatMap rowS ++ 93 :: u) == [94]) = false ∧ rows.length ≤ (rows.flatMap rowS).length
  | [], _, acc, f, u, hu, hf => by
    obtain ⟨f, rfl⟩ : ∃ g, f = g + 1 := ⟨f - 1, by simp at hf; omega⟩
    obtain ⟨a1, a2⟩ := hd1 (y := 93) hu
    refine ⟨?_, rfl, by show (hdC (93 :: u) == _) = _; rw [a1]; rfl, by show (hdC (93 :: u) == _) = _; rw [a1]; rfl, Nat.le_refl _⟩
    show clsP (f + 1) acc (93 :: u) = _
    rw [clsP, a1, a2, if_pos (by decide), List.append_nil]
  | r :: rows, hb, acc, f, u, hu, hf => by
    obtain ⟨f, rfl⟩ : ∃ g, f = g + 1 := ⟨f - 1, by simp at hf; omega⟩
    obtain ⟨i1, i2, i3, i4, i5⟩ := rows_read rows (fun x hx => hb x (List.mem_cons_of_mem _ hx)) (acc ++ [r]) f u hu (by simp at hf; omega)
    obtain ⟨r1, r2, r3, r4, r5, r6⟩ := row_read (hb r List.mem_cons_self) i2 i3
    rw [List.flatMap_cons, List.append_assoc]
    refine ⟨?_, r2, r3, r5, ?_⟩
    · rw [clsP, r4, if_neg (by decide), r1]
      simp only
      rw [i1, List.append_assoc]; rfl
    · have hr0 : rowS r ≠ [] := by
        intro h0
        have := r1
        obtain ⟨q1, q2, q3, q4, q5, q6⟩ := row_read (hb r List.mem_cons_self) (u := []) rfl rfl
        rw [h0] at q6; exact q6 rfl
      have := List.length_pos_iff.2 hr0
      rw [List.length_append, List.length_cons]; omega
theorem okU_self {l : List Rw} (h : ∀ r ∈ l, rowB r = true) : okU l = l := by
  unfold okU
  exact List.filter_eq_self.2 h
theorem set_read {nt : Bool} {rows : List Rw} {u : List UInt8} (hm : mayF rows = true) (hu : contH u = false) : classP ((if nt then [94] else []) ++ rows.flatMap rowS ++ 93 :: u) = .ok (setX nt rows) u := by
  have hb : ∀ r ∈ rows, rowB r = true := fun r hr => by
    obtain ⟨i, hi, rfl⟩ := List.getElem_of_mem hr
    exact ((mayF_at rows).1 hm i hi).1
  have hn := mayF_norm rows hm
  have hun : uniF (sortS (okU rows)) = rows := by
    rw [okU_self hb, sortS_eq (List.Perm.refl _) (norm_sorted rows hn), uni_self rows hn]
  obtain ⟨_, c2, _, c4, c5⟩ := rows_read rows hb [] (rows.length + 1) u hu (Nat.lt_succ_self _)
  have hfu := (rows_read rows hb [] ((rows.flatMap rowS ++ 93 :: u).length + 1) u hu (by rw [List.length_append]; omega)).1
  rw [List.nil_append] at hfu
  unfold classP
  cases nt
  · simp only [Bool.false_eq_true, if_false, List.nil_append]
    rw [c4, if_neg (by decide), hfu]
    simp only
    rw [hun]
  · obtain ⟨a1, a2⟩ := hd1 (y := 94) c2
    simp only [if_true]
    rw [show [94] ++ rows.flatMap rowS ++ 93 :: u = 94 :: (rows.flatMap rowS ++ 93 :: u) by simp, a1, a2, if_pos (by decide), hfu]
    simp only
    rw [hun]
    rfl
/-- A number that is told. -/
theorem num_digits : ∀ (ds : List UInt8) (f n k : Nat) (rest : List UInt8), (∀ c ∈ ds, 48 ≤ c.toNat ∧ c.toNat ≤ 57) → ds.length ≤ f → contH rest = false → (∀ y, hdC rest = [y] → digZ y.toNat = false) → numR f n k (ds ++ rest) = (ds.foldl (fun a c => a * 10 + (c.toNat - 48)) n, k + ds.length, rest)
  | [], f, n, k, rest, _, _, _, hr => by
    rw [List.nil_append]
    cases f with
    | zero => rfl
    | succ f =>
      by_cases h1 : (hdC rest).length = 1
      · match hq : hdC rest, h1 with
        | [y], _ => exact numR_no hq (hr y hq)
      · exact numR_ne h1
  | d :: ds, f, n, k, rest, hd, hf, hc, hr => by
    obtain ⟨f, rfl⟩ : ∃ g, f = g + 1 := ⟨f - 1, by simp at hf; omega⟩
    have h2 := hd d List.mem_cons_self
    have hds : ∀ c ∈ ds, 48 ≤ c.toNat ∧ c.toNat ≤ 57 := fun c hc => hd c (List.mem_cons_of_mem _ hc)
    have hcc : contH (ds ++ rest) = false := by
      refine contH_app ?_ hc
      cases ds with
      | nil => rfl
      | cons e es =>
        have := hds e List.mem_cons_self
        show contB e = false
        unfold contB
        rw [decide_eq_false_iff_not]; omega
    obtain ⟨a1, a2⟩ := hd1 (y := d) hcc
    rw [List.cons_append, numR_one a1 (by unfold digZ; simp; omega), a2, num_digits ds f _ _ rest hds (by simp at hf; omega) hc hr, List.foldl_cons, List.length_cons]
    congr 2
    omega
theorem dec_num {n : Nat} (hn : n ≤ 255) {y : UInt8} {u : List UInt8} (hu : contH u = false) (hy : y = 44 ∨ y = 125) : numR 4 0 0 (decDigits n ++ y :: u) = (n, (decDigits n).length, y :: u) ∧ numOk n (decDigits n).length = true := by
  have hc : contH (y :: u) = false := by rcases hy with rfl | rfl <;> rfl
  obtain ⟨a1, a2⟩ := hd1 (y := y) hu
  have hl := dec_le3 (n : Int) (by omega)
  unfold decI at hl
  rw [Int.toNat_natCast] at hl
  have h1 := num_digits (decDigits n) 4 0 0 (y :: u) (dec_chars n) (by omega) hc (fun z hz => by
    rw [a1] at hz
    injection hz with hz
    subst hz
    rcases hy with rfl | rfl <;> decide)
  have hv := val_dec n
  unfold valD at hv
  rw [hv, Nat.zero_add] at h1
  refine ⟨h1, ?_⟩
  have h0 : 0 < (decDigits n).length := by rw [dec_pre, List.length_append]; simp
  unfold numOk
  simp; omega
theorem bnd_read {mi ma : Int} {u : List UInt8} {x : Rt} (hr : rngB mi ma = true) (hu : contH u = false) : qntP x (bndS mi ma ++ u) = lazP mi ma x u ∧ contH (bndS mi ma ++ u) = false ∧ endB (bndS mi ma ++ u) = false := by
  unfold rngB at hr
  simp only [Bool.and_eq_true, decide_eq_true_eq] at hr
  obtain ⟨⟨r1, r2⟩, r3⟩ := hr
  obtain ⟨m, rfl⟩ : ∃ m : Nat, mi = m := ⟨mi.toNat, by omega⟩
  have sg : ∀ y : UInt8, y = 42 ∨ y = 43 ∨ y = 63 → ∀ v, contH v = false → hdC (y :: v) = [y] ∧ tlC (y :: v) = v ∧ contH (y :: v) = false ∧ endB (y :: v) = false := by
    intro y hy v hv
    obtain ⟨a1, a2⟩ := hd1 (y := y) hv
    refine ⟨a1, a2, by rcases hy with rfl | rfl | rfl <;> rfl, ?_⟩
    unfold endB
    rw [a1]
    rcases hy with rfl | rfl | rfl <;> rfl
  unfold bndS
  split
  · rename_i h
    obtain ⟨h1, rfl⟩ := h
    obtain ⟨a1, a2, a3, a4⟩ := sg 42 (by simp) u hu
    refine ⟨?_, a3, a4⟩
    show qntP x (42 :: u) = _
    unfold qntP
    rw [a1, a2, h1]; rfl
  split
  · rename_i h
    obtain ⟨h1, rfl⟩ := h
    obtain ⟨a1, a2, a3, a4⟩ := sg 43 (by simp) u hu
    refine ⟨?_, a3, a4⟩
    show qntP x (43 :: u) = _
    unfold qntP
    rw [a1, a2, h1]; rfl
  split
  · rename_i h
    obtain ⟨h1, rfl⟩ := h
    obtain ⟨a1, a2, a3, a4⟩ := sg 63 (by simp) u hu
    refine ⟨?_, a3, a4⟩
    show qntP x (63 :: u) = _
    unfold qntP
    rw [a1, a2, h1]; rfl
  have hcd : ∀ v : List UInt8, contH v = false → contH (decI (m : Int) ++ v) = false := by
    intro v hv
    refine contH_app ?_ hv
    unfold decI
    rw [Int.toNat_natCast]
    cases hq : decDigits m with
    | nil => rfl
    | cons a r =>
      have := dec_chars m a (by rw [hq]; exact List.mem_cons_self)
      show contB a = false
      unfold contB
      rw [decide_eq_false_iff_not]; omega
  have open1 : ∀ v : List UInt8, contH v = false → hdC (123 :: v) = [123] ∧ tlC (123 :: v) = v ∧ contH (123 :: v) = false ∧ endB (123 :: v) = false := by
    intro v hv
    obtain ⟨a1, a2⟩ := hd1 (y := 123) hv
    refine ⟨a1, a2, rfl, ?_⟩
    unfold endB
    rw [a1]; rfl
  have fin : ∀ v : List UInt8, contH v = false → bndP v = some (m, ma, u) → qntP x (123 :: v) = lazP m ma x u ∧ contH (123 :: v) = false ∧ endB (123 :: v) = false := by
    intro v hv hb
    obtain ⟨a1, a2, a3, a4⟩ := open1 v hv
    refine ⟨?_, a3, a4⟩
    unfold qntP
    rw [a1, a2, if_neg (by decide), if_neg (by decide), if_neg (by decide), if_pos (by decide), hb]
  have hdm : decI (m : Int) = decDigits m := by unfold decI; rw [Int.toNat_natCast]
  split
  · rename_i h
    rw [show (123 :: decI (m : Int) ++ [125]) ++ u = 123 :: (decI (m : Int) ++ 125 :: u) by simp]
    have hn := dec_num (n := m) (by omega) (y := 125) (u := u) hu (.inr rfl)
    obtain ⟨a1, a2⟩ := hd1 (y := 125) hu
    refine fin _ (hcd _ rfl) ?_
    rw [hdm]
    show bndP (decDigits m ++ 125 :: u) = _
    unfold bndP
    rw [hn.1]
    simp only
    rw [hn.2, if_pos rfl, a1, a2, if_neg (by decide), if_pos (by decide), h]
  split
  · rename_i h
    subst h
    rw [show (123 :: decI (m : Int) ++ [44, 125]) ++ u = 123 :: (decI (m : Int) ++ 44 :: 125 :: u) by simp]
    obtain ⟨a1, a2⟩ := hd1 (y := 125) hu
    obtain ⟨b1, b2⟩ := hd1 (y := 44) (u := 125 :: u) rfl
    have hn := dec_num (n := m) (by omega) (y := 44) (u := 125 :: u) rfl (.inl rfl)
    refine fin _ (hcd _ rfl) ?_
    rw [hdm]
    show bndP (decDigits m ++ 44 :: 125 :: u) = _
    unfold bndP
    rw [hn.1]
    simp only
    rw [hn.2, if_pos rfl, b1, b2, if_pos (by decide), a1, a2, if_pos (by decide)]
  · rename_i h1 h2
    obtain ⟨k, rfl⟩ : ∃ k : Nat, ma = k := ⟨ma.toNat, by omega⟩
    have hdk : decI (k : Int) = decDigits k := by unfold decI; rw [Int.toNat_natCast]
    rw [show (123 :: decI (m : Int) ++ [44] ++ decI (k : Int) ++ [125]) ++ u = 123 :: (decI (m : Int) ++ 44 :: (decI (k : Int) ++ 125 :: u)) by simp]
    have hck : contH (decDigits k ++ 125 :: u) = false := by
      refine contH_app ?_ rfl
      cases hq : decDigits k with
      | nil => rfl
      | cons a r =>
        have := dec_chars k a (by rw [hq]; exact List.mem_cons_self)
        show contB a = false
        unfold contB
        rw [decide_eq_false_iff_not]; omega
    obtain ⟨b1, b2⟩ := hd1 (y := 44) hck
    obtain ⟨a1, a2⟩ := hd1 (y := 125) hu
    have hn := dec_num (n := m) (by omega) (y := 44) (u := decDigits k ++ 125 :: u) hck (.inl rfl)
    have hk := dec_num (n := k) (by omega) (y := 125) (u := u) hu (.inr rfl)
    have hnb : (hdC (decDigits k ++ 125 :: u) == [125]) = false := by
      rw [dec_pre]
      cases hq : preD k with
      | nil =>
        rw [List.nil_append]
        have hz := dec_chars k (UInt8.ofNat (48 + k % 10)) (by rw [dec_pre]; simp)
        show (hdC (UInt8.ofNat (48 + k % 10) :: 125 :: u) == [125]) = false
        rw [(hd1 (u := 125 :: u) rfl).1, beq_eq_false_iff_ne]
        intro e
        injection e with e
        rw [e] at hz
        exact absurd hz.2 (by decide)
      | cons a r =>
        have hz := dec_chars k a (by rw [dec_pre, hq]; simp)
        have hcc : contH (r ++ [UInt8.ofNat (48 + k % 10)] ++ 125 :: u) = false := by
          have hall : ∀ c ∈ r ++ [UInt8.ofNat (48 + k % 10)], 48 ≤ c.toNat ∧ c.toNat ≤ 57 := fun c hc => dec_chars k c (by rw [dec_pre, hq]; exact List.mem_cons_of_mem _ hc)
          refine contH_app ?_ rfl
          cases hq2 : r ++ [UInt8.ofNat (48 + k % 10)] with
          | nil => rfl
          | cons e es =>
            have := hall e (by rw [hq2]; exact List.mem_cons_self)
            show contB e = false
            unfold contB
            rw [decide_eq_false_iff_not]; omega
        show (hdC (a :: (r ++ [UInt8.ofNat (48 + k % 10)] ++ 125 :: u)) == [125]) = false
        rw [(hd1 hcc).1, beq_eq_false_iff_ne]
        intro e
        injection e with e
        rw [e] at hz
        exact absurd hz.2 (by decide)
    refine fin _ (hcd _ rfl) ?_
    rw [hdm, hdk]
    unfold bndP
    rw [hn.1]
    simp only
    rw [hn.2, if_pos rfl, b1, b2, if_pos (by decide), hnb, if_neg (by decide), hk.1]
    simp only
    rw [hk.2, a1, a2, if_pos (by simp; omega)]
end Go.Proofs.YtmacpmblodhcpaaGreatDoor
