/- Contracts: is a row one; are rows in order; is a text in one of some rows. No condition but short texts and slices. -/
import Derived.Test.YthccikhaialhhaaRowB
import Derived.Test.YthccikhaialhhaaLater
namespace Go.Proofs.Ythccikhaialhhaa
open Go.ChangeShapes Go.WideShapes Go.ChangeAt Go.RowKit
open SetM
attribute [local go_sem ↓] Go.wp_at_zero Go.wp_at_succ
attribute [local go_sem] later_cell later_frozen
theorem lt_bl (a b : ByteArray) : Op.bytesLess a.toList b.toList = bl a b := rfl
theorem le_bl (a b : ByteArray) : (bl a b || a.toList == b.toList) = !bl b a := le_or a b
attribute [local go_sem] lt_bl le_bl
def rowB (s : Rw) : Bool := properB s.1.data.toList && properB s.2.data.toList && !bl s.2 s.1
def Short (s : Rw) : Prop := s.1.size ≤ 100000 ∧ s.2.size ≤ 100000
set_option maxRecDepth 100000 in
set_option maxHeartbeats 1000000 in
theorem may_any (s : Rw) (r : Bool) (w : World) (hs : Short s) (hr : rowB s = r) :
    Calls Try.prog 25 #[.agg #[.string s.1, .string s.2]] w fun e w' => e = .returned (.bool r) ∧ Below w.heap.size w w' := by
  obtain ⟨s1, s2⟩ := s
  obtain ⟨hs1, hs2⟩ := hs
  try simp only at hs1 hs2
  obtain ⟨p1, hp1⟩ : ∃ p, properB s1.data.toList = p := ⟨_, rfl⟩
  obtain ⟨p2, hp2⟩ : ∃ p, properB s2.data.toList = p := ⟨_, rfl⟩
  obtain ⟨p3, hp3⟩ : ∃ p, bl s2 s1 = p := ⟨_, rfl⟩
  have hr2 : r = (p1 && p2 && !p3) := by rw [← hr, ← hp1, ← hp2, ← hp3]; rfl
  have HP1 := hide hp1
  have HP2 := hide hp2
  have HR := hide hr2
  clear hp1 hp2 hr2 hr
  go_enter Try.func25, Try.ntmps25
  go_wp2_with fail
  refine (properq_any s1 p1 _ (by omega) HP1.out).mono ?_
  rintro e w1 ⟨rfl, hb1⟩
  have c1 : w1.cell? ⟨w.heap.size, 0, none⟩ = some (.string s1) := by rw [(bl_cell hb1).1 _ _ (by simp)]; go_simp
  have c2 : w1.cell? ⟨w.heap.size, 1, none⟩ = some (.string s2) := by rw [(bl_cell hb1).1 _ _ (by simp)]; go_simp
  have hbl1 := bl_trans (bl_alloc (bl_refl w) _) hb1
  clear hb1
  cases p1
  · clear hp3
    go_wp2
    go_ret
    exact ⟨ret_bool HR.out.symm, hbl1⟩
  · go_wp2_with fail
    refine (properq_any s2 p2 _ (by omega) HP2.out).mono ?_
    rintro e w2 ⟨rfl, hb2⟩
    have d1 := cell_later hb2 c1
    have d2 := cell_later hb2 c2
    have hbl2 := bl_trans hbl1 hb2
    clear hb2 hbl1 c1 c2
    cases p2
    · clear hp3
      go_wp2
      go_ret
      exact ⟨ret_bool HR.out.symm, hbl2⟩
    · cases p3
      all_goals
        go_wp2
        go_ret
        exact ⟨ret_bool HR.out.symm, hbl2⟩
theorem inB_next (l : List Rw) (k : Nat) (h : k < l.length) (c : ByteArray) : inB (l.take (k + 1)) c = (inB (l.take k) c || (!bl c l[k].1 && !bl l[k].2 c)) := by
  rw [List.take_succ_eq_append_getElem h, inB_app]; simp [inB]
theorem inB_yes (l : List Rw) (k : Nat) (h : k < l.length) (c : ByteArray) (h1 : bl c l[k].1 = false) (h2 : bl l[k].2 c = false) : inB l c = true := by
  rw [inB_iff]; exact ⟨l[k], List.getElem_mem h, h1, h2⟩
set_option maxRecDepth 100000 in
set_option maxHeartbeats 2000000 in
theorem has_any (v : Value) (l : List Rw) (c : ByteArray) (r : Bool) (w : World) (h : RwAt w v l) (hl : l.length ≤ 1000) (hr : inB l c = r) :
    Calls Try.prog 31 #[v, .string c] w fun e w' => e = .returned (.bool r) ∧ Below w.heap.size w w' := by
  have HW := hide h
  obtain ⟨aA, cA, rfl⟩ := rwat_len h
  have HR := hide hr
  clear h hr
  go_enter Try.func31, Try.ntmps31
  go_wp2
  go_loopw [9] (fun i wr => ∃ j : Nat, j ≤ l.length ∧ i = .int .i64 j ∧ Hid (inB (l.take j) c = false) ∧ Below w.heap.size w wr)
    (fun i _ => l.length - (intOf i).toNat)
  case atStart => exact ⟨0, Nat.zero_le _, rfl, hide (by simp [inB]), bl_refl w⟩
  case round =>
    obtain ⟨j, hj, rfl, HT, hbl⟩ := hrel
    by_cases hlt : j < l.length
    · obtain ⟨b1, o1, c1, hv1, hc1, hm1, hlb1, hcell1⟩ := rwat_some (rwat_below HW.out hbl) (by omega)
      injection hv1 with hv1 _ hv1c
      subst hv1 hv1c
      unfold maxLen at hm1
      obtain ⟨x1, x2⟩ := hcell1 j hlt
      have HN := hide (inB_next l j hlt c)
      have HY := hide (inB_yes l j hlt c)
      clear hcell1
      generalize l[j] = s at *
      obtain ⟨s1, s2⟩ := s
      try simp only at x1 x2 HN HY
      have hbl2 := bl_alloc hbl (.cells #[.string s1, .string s2] 36)
      cases h1 : bl c s1
      · cases h2 : bl s2 c
        · have hy := HY.out h1 h2
          have HF : Hid (r = true) := hide (by rw [← HR.out]; exact hy)
          clear hy HY HN HT HR
          go_wp2
          go_ret
          exact ⟨ret_bool HF.out.symm, hbl2⟩
        · have HT2 : Hid (inB (l.take (j + 1)) c = false) := hide (by rw [HN.out, HT.out, h1, h2]; rfl)
          clear HY HN HT
          go_wp2
          refine ⟨?_, by first | (simp [intOf]; done) | (simp [intOf]; omega)⟩
          first
            | exact ⟨j + 1, by omega, by go_num, HT2, hbl2⟩
            | ((repeat apply Exists.intro); exact ⟨⟨j + 1, by omega, by go_num, HT2, hbl2⟩, rfl⟩)
      · have HT2 : Hid (inB (l.take (j + 1)) c = false) := hide (by rw [HN.out, HT.out, h1]; rfl)
        clear HY HN HT
        go_wp2
        refine ⟨?_, by first | (simp [intOf]; done) | (simp [intOf]; omega)⟩
        first
          | exact ⟨j + 1, by omega, by go_num, HT2, hbl2⟩
          | ((repeat apply Exists.intro); exact ⟨⟨j + 1, by omega, by go_num, HT2, hbl2⟩, rfl⟩)
    · have HF : Hid (r = false) := hide (by
        rw [← HR.out]; have := HT.out; rwa [List.take_of_length_le (by omega)] at this)
      clear HT HR
      go_wp2
      go_ret
      exact ⟨ret_bool HF.out.symm, hbl⟩
set_option maxRecDepth 100000 in
set_option maxHeartbeats 2000000 in
theorem rin_any (v : Value) (l : List Rw) (c : ByteArray) (r : Bool) (w : World) (h : RwAt w v l) (hl : l.length ≤ 1000) (hr : inB l c = r) :
    Calls Try.prog 35 #[v, .string c] w fun e w' => e = .returned (.bool r) ∧ w = w' := by
  have HW := hide h
  obtain ⟨aA, cA, rfl⟩ := rwat_len h
  have HR := hide hr
  clear h hr
  go_enter Try.func35, Try.ntmps35
  go_wp2
  go_loopw [5] (fun i wr => ∃ j : Nat, j ≤ l.length ∧ i = .int .i64 j ∧ Hid (inB (l.take j) c = false) ∧ w = wr)
    (fun i _ => l.length - (intOf i).toNat)
  case atStart => exact ⟨0, Nat.zero_le _, rfl, hide (by simp [inB]), rfl⟩
  case round =>
    obtain ⟨j, hj, rfl, HT, rfl⟩ := hrel
    by_cases hlt : j < l.length
    · obtain ⟨b1, o1, c1, hv1, hc1, hm1, hlb1, hcell1⟩ := rwat_some HW.out (by omega)
      injection hv1 with hv1 _ hv1c
      subst hv1 hv1c
      unfold maxLen at hm1
      obtain ⟨x1, x2⟩ := hcell1 j hlt
      have HN := hide (inB_next l j hlt c)
      have HY := hide (inB_yes l j hlt c)
      clear hcell1
      generalize l[j] = s at *
      obtain ⟨s1, s2⟩ := s
      try simp only at x1 x2 HN HY
      cases h1 : bl c s1
      · cases h2 : bl s2 c
        · have hy := HY.out h1 h2
          have HF : Hid (r = true) := hide (by rw [← HR.out]; exact hy)
          clear hy HY HN HT HR
          go_wp2
          go_ret
          exact ⟨ret_bool HF.out.symm, rfl⟩
        · have HT2 : Hid (inB (l.take (j + 1)) c = false) := hide (by rw [HN.out, HT.out, h1, h2]; rfl)
          clear HY HN HT
          go_wp2
          refine ⟨?_, by first | (simp [intOf]; done) | (simp [intOf]; omega)⟩
          first
            | exact ⟨j + 1, by omega, by go_num, HT2, by first | rfl | trivial⟩
            | ((repeat apply Exists.intro); exact ⟨⟨j + 1, by omega, by go_num, HT2, by first | rfl | trivial⟩, rfl⟩)
      · have HT2 : Hid (inB (l.take (j + 1)) c = false) := hide (by rw [HN.out, HT.out, h1]; rfl)
        clear HY HN HT
        go_wp2
        refine ⟨?_, by first | (simp [intOf]; done) | (simp [intOf]; omega)⟩
        first
          | exact ⟨j + 1, by omega, by go_num, HT2, by first | rfl | trivial⟩
          | ((repeat apply Exists.intro); exact ⟨⟨j + 1, by omega, by go_num, HT2, by first | rfl | trivial⟩, rfl⟩)
    · have HF : Hid (r = false) := hide (by
        rw [← HR.out]; have := HT.out; rwa [List.take_of_length_le (by omega)] at this)
      clear HT HR
      go_wp2
      go_ret
      exact ⟨ret_bool HF.out.symm, rfl⟩
end Go.Proofs.Ythccikhaialhhaa
