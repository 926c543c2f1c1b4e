/- Formats as sources of an append, one part alone applied, how long what is made is. No condition but sizes. -/
import Derived.Test.YtbphckblbbbakaaDoorFmZ
import Derived.Test.YtbphckblbbbakaaDoorApp
import Derived.Test.YtbphckblbbbakaaDoorLong
import Derived.Test.YtbphckblbbbakaaDoorLow
namespace Go.Proofs.YtbphckblbbbakaaDoor
open Go.ChangeShapes Go.WideShapes Go.ChangeAt Go.RowKit
theorem fmC_len (l : List Fm) : (fmC l).length = l.length * 5 := by
  induction l with
  | nil => rfl
  | cons d l ih => rw [show fmC (d :: l) = fmC1 d ++ fmC l from rfl, List.length_append, ih, List.length_cons]; simp [fmC1]; omega
theorem fmC_at (l : List Fm) (j : Nat) (u : Value) (h : (fmC l)[j]? = some u) : ∃ (hi : j / 5 < l.length), (fmC1 l[j / 5])[j % 5]? = some u := by
  induction l generalizing j with
  | nil => simp [fmC] at h
  | cons d l ih =>
    rw [show fmC (d :: l) = fmC1 d ++ fmC l from rfl] at h
    by_cases hj : j < 5
    · rw [List.getElem?_append_left (by simp [fmC1]; omega)] at h
      have h0 : j / 5 = 0 := by omega
      refine ⟨by rw [h0]; simp, ?_⟩
      simp only [h0, List.getElem_cons_zero, show j % 5 = j by omega]
      exact h
    · rw [List.getElem?_append_right (by simp [fmC1]; omega)] at h
      obtain ⟨hi, hu⟩ := ih (j - (fmC1 d).length) h
      change (j - 5) / 5 < l.length at hi
      change (fmC1 (l[(j - 5) / 5]'hi))[(j - 5) % 5]? = some u at hu
      have h1 : j / 5 = (j - 5) / 5 + 1 := by omega
      refine ⟨by rw [h1]; simp; omega, ?_⟩
      simp only [h1, List.getElem_cons_succ, show j % 5 = (j - 5) % 5 by omega]
      exact hu
theorem fmat_src {w : World} {A : Option Addr} {c : Nat} {l : List Fm} (h : FmAt w (.slice A l.length c) l) : Src w 5 A l.length (fmC l) := by
  refine ⟨fmC_len l, ?_⟩
  rcases h with ⟨_, h1⟩ | ⟨x, c1, hv, _, _, hc⟩
  · left; rw [h1]; rfl
  · right
    injection hv with hv _ _
    refine ⟨x, hv, fun j u hu => ?_⟩
    obtain ⟨hi, hu2⟩ := fmC_at l j u hu
    obtain ⟨c0, c1, c2, c3, c4⟩ := hc (j / 5) hi
    have hm : j % 5 < 5 := Nat.mod_lt _ (by decide)
    have hj : j = j / 5 * 5 + j % 5 := by omega
    generalize j % 5 = m at hu2 hm hj
    rw [hj]
    match m, hm with
    | 0, _ => rw [← (Option.some.inj hu2), Nat.add_zero]; exact c0
    | 1, _ => rw [← (Option.some.inj hu2)]; exact c1
    | 2, _ => rw [← (Option.some.inj hu2)]; exact c2
    | 3, _ => rw [← (Option.some.inj hu2)]; exact c3
    | 4, _ => rw [← (Option.some.inj hu2)]; exact c4
theorem fmC_one' (l : List Fm) : ∀ u ∈ fmC l, u.oneCell' = true := by
  intro u hu
  unfold fmC at hu
  rw [List.mem_flatMap] at hu
  obtain ⟨d, _, hu⟩ := hu
  simp [fmC1] at hu
  rcases hu with rfl | rfl | rfl | rfl | rfl <;> simp [Value.oneCell']
theorem strs_srat {w : World} {a : Option Addr} {n c : Nat} {z : List ByteArray} (h : IsStrs w a n c z) : SrAt w (.slice a n c) (z.take n) := by
  have hl := strs_len h
  have hn : (z.take n).length = n := by rw [List.length_take]; omega
  rcases Nat.eq_zero_or_pos n with h0 | h0
  · subst h0
    rcases h with ⟨rfl, _, rfl, rfl⟩ | ⟨x, rfl, h1, h2, _⟩
    · exact ⟨none, 0, rfl, Nat.zero_le _, by unfold maxLen; decide, fun i hi => by simp at hi⟩
    · exact ⟨some x, c, by simp, by simp, h2, fun i hi => by simp at hi⟩
  · obtain ⟨b, o, rfl, h1, h2, h3, hc⟩ := strs_cell h h0
    refine ⟨_, c, by rw [hn], by rw [hn]; exact h2, h3, fun i hi => ⟨b, o, rfl, ?_⟩⟩
    rw [hc i (by omega)]
    simp [List.getD, show i < z.length by omega]
theorem capL_len (f : UInt8 → UInt8) (l : List UInt8) : (capL f l).length = l.length := by cases l <;> rfl
theorem jn_le (f : UInt8 → UInt8) : ∀ (l : List UInt8) (st em : Bool), (jn f l st em).length ≤ l.length
  | [], _, _ => by simp [jn]
  | c :: r, st, em => by
    rw [jn]
    cases wordB c
    · have := jn_le f r true em; simp; omega
    · have := jn_le f r false false; simp; omega
theorem turnL_le (c : Int) (l : List UInt8) : (turnL c l).length ≤ l.length := by
  unfold turnL
  repeat (split; · first | (simp; done) | exact jn_le _ _ _ _ | exact Nat.le_of_eq (capL_len _ _))
  simp
theorem mkF_le (ps : List ByteArray) (d : Fm) (n : Nat) (h1 : d.th.size ≤ n) (h2 : d.el.size ≤ n) (h3 : (ptF ps d.n).size ≤ n) : (mkF ps d).size ≤ n := by
  unfold mkF apF1
  have h4 : (trnF (ptF ps d.n) d.c).size ≤ n := by
    unfold trnF
    have := turnL_le d.c (ptF ps d.n).data.toList
    rw [Array.length_toList] at this
    refine Nat.le_trans ?_ h3
    show (turnL d.c (ptF ps d.n).data.toList).toArray.size ≤ _
    rw [List.size_toArray]; exact this
  repeat (split; · first | exact h1 | exact h4 | exact h2 | (split <;> assumption))
  exact h3
theorem mkL_app (ps : List ByteArray) (l m : List Fm) : mkL ps (l ++ m) = mkL ps l ++ mkL ps m := List.flatMap_append
theorem mayL_app {l m : List Fm} (h : mayL (l ++ m) = true) : mayL l = true ∧ mayL m = true := by
  have all : ∀ i (hi : i < (l ++ m).length), mayF (l ++ m)[i] = true ∧ ∀ j, i = j + 1 → (l ++ m)[i].k = 0 → ((l ++ m)[j]!).k ≠ 0 := fun i hi => by
    have := List.all_eq_true.1 h i (List.mem_range.2 hi)
    unfold okF at this
    rw [getElem!_pos (l ++ m) i hi, Bool.and_eq_true] at this
    refine ⟨this.1, fun j hj h0 h1 => ?_⟩
    subst hj
    have h2 := this.2
    rw [Nat.add_sub_cancel, h0, h1] at h2
    simp at h2
  constructor
  · refine mayL_of (fun d hd => ?_) (fun i hi hk hk2 => ?_)
    · obtain ⟨i, hi, rfl⟩ := List.getElem_of_mem hd
      have := (all i (by rw [List.length_append]; omega)).1
      rwa [List.getElem_append_left hi] at this
    · have := (all (i + 1) (by rw [List.length_append]; omega)).2 i rfl
      rw [List.getElem_append_left hi, getElem!_pos (l ++ m) i (by rw [List.length_append]; omega), List.getElem_append_left (by omega)] at this
      exact this hk2 hk
  · refine mayL_of (fun d hd => ?_) (fun i hi hk hk2 => ?_)
    · obtain ⟨i, hi, rfl⟩ := List.getElem_of_mem hd
      have := (all (l.length + i) (by rw [List.length_append]; omega)).1
      rw [List.getElem_append_right (by omega)] at this
      simpa using this
    · have := (all (l.length + i + 1) (by rw [List.length_append]; omega)).2 (l.length + i) rfl
      rw [List.getElem_append_right (by omega), getElem!_pos (l ++ m) (l.length + i) (by rw [List.length_append]; omega), List.getElem_append_right (by omega)] at this
      simp only [show l.length + i + 1 - l.length = i + 1 by omega, show l.length + i - l.length = i by omega] at this
      exact this hk2 hk
theorem fm_lit (w : World) (d : Fm) : FmAt (w.alloc (.cells #[.int .i64 d.k, .int .i64 d.n, .int .i64 d.c, .string d.th, .string d.el] 41)) (.slice (some ⟨w.heap.size, 0, none⟩) 1 1) [d] := by
  refine .inr ⟨⟨w.heap.size, 0, none⟩, 1, rfl, Nat.le_refl _, by unfold maxLen; decide, fun i hi => ?_⟩
  obtain rfl : i = 0 := by simp at hi; exact hi
  exact ⟨cells_lit w _ _ 0 _ rfl, cells_lit w _ _ 1 _ rfl, cells_lit w _ _ 2 _ rfl, cells_lit w _ _ 3 _ rfl, cells_lit w _ _ 4 _ rfl⟩
theorem apply_one (d : Fm) (hd : mayF d = true) (u : Value) (ps : List ByteArray) (W : World) (hp : SrAt W u ps) (hpl : ps.length ≤ 1000) (hps : ∀ n, (ptF ps n).size ≤ 1000) (X : ByteArray) (hX : mkF ps d = X) (hz : X.size ≤ 1000000) :
    Calls Tryd.prog 13 #[.slice (some ⟨W.heap.size, 0, none⟩) 1 1, u] (W.alloc (.cells #[.int .i64 d.k, .int .i64 d.n, .int .i64 d.c, .string d.th, .string d.el] 41)) fun e w' => e = .returned (.string X) ∧ Below W.heap.size W w' := by
  have hm : mayL [d] = true := mayL_of (fun x hx => by simp at hx; rw [hx]; exact hd) (fun i hi => by simp at hi)
  refine (fapplyL_any _ u [d] ps _ (fm_lit W d) (srat_below hp (bl_alloc (bl_refl W) _)) (by simp) hpl hps (fun x hx => by simp at hx; rw [hx, hX]; exact hz)).mono ?_
  rintro e w' ⟨rfl, hb⟩
  refine ⟨?_, bl_trans (bl_alloc (bl_refl W) _) hb⟩
  rw [if_pos hm]
  have : mkL ps [d] = X.data.toList := by unfold mkL; simp [hX]
  rw [this]
end Go.Proofs.YtbphckblbbbakaaDoor
