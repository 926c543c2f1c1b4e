/- Contract: are a format's parts few and short (the laws' own bound). Condition: a format that is not too long. -/
import Derived.Test.YtbphckblbbbakaaDoorFmArgs
import Derived.Deep.DrawnRows
import Derived.BigQuiet
namespace Go.Proofs.YtbphckblbbbakaaDoor
open Go.ChangeShapes Go.WideShapes Go.ChangeAt Go.RowKit
attribute [local go_sem ↓] Go.wp_at_zero Go.wp_at_succ
set_option maxRecDepth 100000
set_option linter.unusedVariables false
def LeftOk (l : List Fm) (n : Nat) : Prop := l.length ≤ n ∧ ∀ i (h : i < l.length), l[i].th.size ≤ n ∧ l[i].el.size ≤ n
def LeftPost (l : List Fm) (n : Nat) (w : World) (e : Ending) (w' : World) : Prop := ∃ r : Int, e = .returned (.int .i64 r) ∧ Below w.heap.size w w' ∧ Hid (0 ≤ r → LeftOk l n)
set_option maxHeartbeats 4000000 in
theorem left_any (v : Value) (l : List Fm) (n : Nat) (w : World) (h : FmAt w v l) (hl : ∀ d ∈ l, WfF d) (hn : n ≤ 100000) :
    Calls Tryd.prog 6 #[v, .int .i64 (n : Int)] w (LeftPost l n w) := by
  obtain ⟨vA, vc, rfl⟩ := fmat_len h
  have H := hide h
  have HWF := hide hl
  clear h hl
  go_enter Tryd.func6, Tryd.ntmps6
  go_wp2
  go_loopw [1, 5] (fun m i wr => ∃ (k : Nat) (m' : Int), i = .int .i64 k ∧ m = .int .i64 m' ∧ k ≤ l.length ∧ -(3 * (n : Int)) - 1 ≤ m' ∧ m' + k ≤ n ∧ Hid (∀ i (hi : i < l.length), i < k → l[i].th.size ≤ n ∧ l[i].el.size ≤ n) ∧ Hid (Below w.heap.size w wr)) (fun _ i _ => l.length - (intOf i).toNat)
  case atStart => exact ⟨0, n, rfl, rfl, Nat.zero_le _, by omega, by omega, hide (fun i _ h => by omega), hide (bl_refl w)⟩
  case round =>
    obtain ⟨k, m, rfl, rfl, hk, hm0, hmk, HA, HBL⟩ := hrel
    by_cases hlt : k < l.length
    · obtain ⟨b1, o1, c1, hv1, hc1, hm1, hlb1, hcell⟩ := fmat_some (fmat_below H.out HBL.out) (by omega)
      injection hv1 with hv1 _ hv1c
      subst hv1 hv1c
      unfold maxLen at hm1
      obtain ⟨_, _, _, x3, x4⟩ := hcell k hlt
      obtain ⟨_, _, _, z3, z4⟩ := HWF.out _ (List.getElem_mem hlt)
      have hnx : ∀ t e : ByteArray, l[k].th = t → l[k].el = e → t.size ≤ n → e.size ≤ n → Hid (∀ i (hi : i < l.length), i < k + 1 → l[i].th.size ≤ n ∧ l[i].el.size ≤ n) := fun t e h1 h2 h3 h4 => hide (fun i hi h => by
        rcases Nat.eq_or_lt_of_le (Nat.le_of_lt_succ h) with h5 | h5
        · subst h5; rw [h1, h2]; exact ⟨h3, h4⟩
        · exact HA.out i hi h5)
      obtain ⟨t, ht⟩ : ∃ t, l[k].th = t := ⟨_, rfl⟩
      obtain ⟨e, he⟩ : ∃ e, l[k].el = e := ⟨_, rfl⟩
      rw [ht] at x3 z3
      rw [he] at x4 z4
      have HNX := hide (hnx t e ht he)
      unfold maxLen at z3 z4
      have gl : decide (k < l.length) = true := decide_eq_true hlt
      clear hcell hnx ht he HA
      by_cases hA : m ≤ t.size
      · have g1 : decide (m ≤ (t.size : Int)) = true := decide_eq_true hA
        clear HNX
        go_wp2
        go_ret
        exact ⟨-1, rfl, HBL.out, hide (fun h => by omega)⟩
      · have g1 : decide (m ≤ (t.size : Int)) = false := decide_eq_false hA
        by_cases hB : m ≤ e.size
        · have g2 : decide (m ≤ (e.size : Int)) = true := decide_eq_true hB
          clear HNX
          go_wp2
          go_ret
          exact ⟨-1, rfl, HBL.out, hide (fun h => by omega)⟩
        · have g2 : decide (m ≤ (e.size : Int)) = false := decide_eq_false hB
          have hm1 : m ≤ n := by omega
          have HN2 := HNX.out (by omega) (by omega)
          have q1 : IntKind.i64.wrap (m - 1) = m - 1 := by rw [IntKind.wrap_i64]; omega
          have q2 : IntKind.i64.wrap (m - 1 - (t.size : Int)) = m - 1 - t.size := by rw [IntKind.wrap_i64]; omega
          have q3 : IntKind.i64.wrap (m - 1 - (t.size : Int) - (e.size : Int)) = m - 1 - t.size - e.size := by rw [IntKind.wrap_i64]; omega
          clear HNX
          go_wp2
          go_quiet (fail)
          go_wp2
          refine ⟨?_, by first | (simp [intOf]; done) | (simp [intOf]; omega)⟩
          have HB2 := hide (bl_drewN HBL.out nq)
          first
            | exact ⟨k + 1, m - 1 - t.size - e.size, by go_num, rfl, by omega, by omega, by omega, HN2, HB2⟩
            | ((repeat apply Exists.intro); exact ⟨⟨k + 1, m - 1 - t.size - e.size, by go_num, rfl, by omega, by omega, by omega, HN2, HB2⟩, rfl⟩)
    · obtain rfl : k = l.length := by omega
      have gl : decide (l.length < l.length) = false := by simp
      go_wp2
      go_ret
      exact ⟨m, rfl, HBL.out, hide (fun h => ⟨by omega, fun i hi => HA.out i hi hi⟩)⟩
end Go.Proofs.YtbphckblbbbakaaDoor
