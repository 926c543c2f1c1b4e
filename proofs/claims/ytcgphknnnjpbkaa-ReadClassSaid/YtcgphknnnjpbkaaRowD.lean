/- Contracts: is a row one; are rows in order; is a text in one of some rows. No condition but short texts and slices. -/
import Derived.Test.YtcgphknnnjpbkaaRowB
import Derived.Test.YtcgphknnnjpbkaaLater
namespace Go.Proofs.Ytcgphknnnjpbkaa
open Go.ChangeShapes Go.WideShapes Go.ChangeAt Go.RowKit
open SetM
attribute [local go_sem ↓] Go.wp_at_zero Go.wp_at_succ
attribute [local go_sem] later_cell later_frozen
theorem lt_bl (a b : ByteArray) : Op.bytesLess a.toList b.toList = bl a b := rfl
theorem le_bl (a b : ByteArray) : (bl a b || a.toList == b.toList) = !bl b a := le_or a b
attribute [local go_sem] lt_bl le_bl
def rowB (s : Rw) : Bool := properB s.1.data.toList && properB s.2.data.toList && !bl s.2 s.1
def Short (s : Rw) : Prop := s.1.size ≤ 100000 ∧ s.2.size ≤ 100000
set_option maxRecDepth 100000 in
set_option maxHeartbeats 1000000 in
theorem may_any (s : Rw) (r : Bool) (w : World) (hs : Short s) (hr : rowB s = r) :
    Calls Try.prog 37 #[.agg #[.string s.1, .string s.2]] w fun e w' => e = .returned (.bool r) ∧ Below w.heap.size w w' := by
  obtain ⟨s1, s2⟩ := s
  obtain ⟨hs1, hs2⟩ := hs
  try simp only at hs1 hs2
  obtain ⟨p1, hp1⟩ : ∃ p, properB s1.data.toList = p := ⟨_, rfl⟩
  obtain ⟨p2, hp2⟩ : ∃ p, properB s2.data.toList = p := ⟨_, rfl⟩
  obtain ⟨p3, hp3⟩ : ∃ p, bl s2 s1 = p := ⟨_, rfl⟩
  have hr2 : r = (p1 && p2 && !p3) := by rw [← hr, ← hp1, ← hp2, ← hp3]; rfl
  have HP1 := hide hp1
  have HP2 := hide hp2
  have HR := hide hr2
  clear hp1 hp2 hr2 hr
  go_enter Try.func37, Try.ntmps37
  go_wp2_with fail
  refine (properq_any s1 p1 _ (by omega) HP1.out).mono ?_
  rintro e w1 ⟨rfl, hb1⟩
  have c1 : w1.cell? ⟨w.heap.size, 0, none⟩ = some (.string s1) := by rw [(bl_cell hb1).1 _ _ (by simp)]; go_simp
  have c2 : w1.cell? ⟨w.heap.size, 1, none⟩ = some (.string s2) := by rw [(bl_cell hb1).1 _ _ (by simp)]; go_simp
  have hbl1 := bl_trans (bl_alloc (bl_refl w) _) hb1
  clear hb1
  cases p1
  · clear hp3
    go_wp2
    go_ret
    exact ⟨ret_bool HR.out.symm, hbl1⟩
  · go_wp2_with fail
    refine (properq_any s2 p2 _ (by omega) HP2.out).mono ?_
    rintro e w2 ⟨rfl, hb2⟩
    have d1 := cell_later hb2 c1
    have d2 := cell_later hb2 c2
    have hbl2 := bl_trans hbl1 hb2
    clear hb2 hbl1 c1 c2
    cases p2
    · clear hp3
      go_wp2
      go_ret
      exact ⟨ret_bool HR.out.symm, hbl2⟩
    · cases p3
      all_goals
        go_wp2
        go_ret
        exact ⟨ret_bool HR.out.symm, hbl2⟩
theorem inB_next (l : List Rw) (k : Nat) (h : k < l.length) (c : ByteArray) : inB (l.take (k + 1)) c = (inB (l.take k) c || (!bl c l[k].1 && !bl l[k].2 c)) := by
  rw [List.take_succ_eq_append_getElem h, inB_app]; simp [inB]
theorem inB_yes (l : List Rw) (k : Nat) (h : k < l.length) (c : ByteArray) (h1 : bl c l[k].1 = false) (h2 : bl l[k].2 c = false) : inB l c = true := by
  rw [inB_iff]; exact ⟨l[k], List.getElem_mem h, h1, h2⟩
end Go.Proofs.Ytcgphknnnjpbkaa
