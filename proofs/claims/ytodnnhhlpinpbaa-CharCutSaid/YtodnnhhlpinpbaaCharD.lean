/- Contract: two slices of texts held against one another. No condition but short slices. -/
import Derived.Test.YtodnnhhlpinpbaaCharC
import Derived.Deep.QuietTactic
import Derived.BigQuiet
import Derived.Deep.Draws
namespace Go.Proofs.Ytodnnhhlpinpbaa
open Go.ChangeShapes Go.WideShapes Go.ChangeAt Go.RowKit
/-- The slice reads as l. -/
def StAt (w : World) (v : Value) (l : List ByteArray) : Prop :=
  (v = .slice none 0 0 ∧ l = []) ∨
  ∃ b off c, v = .slice (some ⟨b, off, none⟩) l.length c ∧ l.length ≤ c ∧ c ≤ maxLen ∧ ∀ i (h : i < l.length), w.cell? ⟨b, off + i, none⟩ = some (.string l[i])
theorem stat_len {w : World} {v : Value} {l : List ByteArray} (h : StAt w v l) : ∃ a c, v = .slice a l.length c := by
  rcases h with ⟨rfl, rfl⟩ | ⟨b, off, c, rfl, _⟩
  · exact ⟨none, 0, rfl⟩
  · exact ⟨_, c, rfl⟩
theorem stat_below {w w' : World} {v : Value} {l : List ByteArray} (h : StAt w v l) (hb : Below w.heap.size w w') : StAt w' v l := by
  rcases h with h | ⟨b, off, c, rfl, h1, h2, h3⟩
  · exact .inl h
  · exact .inr ⟨b, off, c, rfl, h1, h2, fun i hi => cell_later hb (h3 i hi)⟩
theorem stat_some {w : World} {v : Value} {l : List ByteArray} (h : StAt w v l) (hp : 0 < l.length) :
    ∃ b off c, v = .slice (some ⟨b, off, none⟩) l.length c ∧ l.length ≤ c ∧ c ≤ maxLen ∧ ∀ i (h : i < l.length), w.cell? ⟨b, off + i, none⟩ = some (.string l[i]) := by
  rcases h with ⟨rfl, rfl⟩ | h
  · simp at hp
  · exact h
theorem own_stat {w : World} {base : Nat} {v : Value} {l : List ByteArray} (h : w.ownsRow base 9 1 v l.length (l.map .string)) : StAt w v l := by
  rcases own_form h with ⟨rfl, h1, h2⟩ | ⟨g, c, rfl, h1, h2, h3, h4, h5⟩
  · exact .inl ⟨rfl, List.eq_nil_of_length_eq_zero h1⟩
  · refine .inr ⟨g, 0, c, rfl, h3, h4, fun i hi => ?_⟩
    rw [Nat.zero_add]
    exact h5 i _ (by simp [hi])
theorem take_eq_succ {α : Type} (l m : List α) (k : Nat) (h : k < l.length) (g : k < m.length) (e : l.take k = m.take k) (e2 : l[k] = m[k]) : l.take (k + 1) = m.take (k + 1) := by
  rw [List.take_succ_eq_append_getElem h, List.take_succ_eq_append_getElem g, e, e2]
set_option maxRecDepth 100000 in
set_option maxHeartbeats 1000000 in
theorem texts_any (v u : Value) (l k : List ByteArray) (w : World) (h : StAt w v l) (g : StAt w u k) (hl : l.length ≤ 1000) (hk : k.length ≤ 1000) :
    Calls Try.prog 10 #[v, u] w fun e w' => e = .returned (.bool (decide (l = k))) ∧ ∃ n, w' = w.drewN n := by
  obtain ⟨a, c, rfl⟩ := stat_len h
  obtain ⟨b, d, rfl⟩ := stat_len g
  by_cases hlen : l.length = k.length
  · have e1 : ((l.length : Int) != (k.length : Int)) = false := by simp [hlen]
    by_cases hp : 0 < l.length
    · obtain ⟨b1, o1, c1, hv1, hc1, hm1, hcell1⟩ := stat_some h hp
      obtain ⟨b2, o2, c2, hv2, hc2, hm2, hcell2⟩ := stat_some g (by omega)
      injection hv1 with hv1 _ hv1c
      injection hv2 with hv2 _ hv2c
      subst hv1 hv2 hv1c hv2c
      unfold maxLen at hm1 hm2
      clear h g hp
      obtain ⟨r, hr⟩ : ∃ r, decide (l = k) = r := ⟨_, rfl⟩
      rw [hr]
      have HRR := hide hr.symm
      clear hr
      have HL := hide hlen
      have hlen' : l.length ≤ k.length := by omega
      clear hlen
      go_enter Try.func10, Try.ntmps10
      go_wp2
      go_loopw [5] (fun i wr => ∃ j n : Nat, j ≤ l.length ∧ i = .int .i64 j ∧ Hid (l.take j = k.take j) ∧ w.drewN n = wr)
        (fun i _ => l.length - (intOf i).toNat)
      case atStart => exact ⟨0, 0, Nat.zero_le _, rfl, hide rfl, rfl⟩
      case round =>
        obtain ⟨j, n, hj, rfl, HT, rfl⟩ := hrel
        by_cases hlt : j < l.length
        · have x1 := hcell1 j hlt
          have x2 := hcell2 j (by omega)
          by_cases he : l[j] = k[j]
          · have hd : (l[j].toList == k[j].toList) = true := by rw [he]; simp
            have HT2 := hide (take_eq_succ l k j hlt (by omega) HT.out he)
            clear he HT
            go_wp2
            go_quiet (fail)
            go_wp2
            refine ⟨?_, by first | (simp [intOf]; done) | (simp [intOf]; omega)⟩
            first
              | exact ⟨j + 1, _, by omega, by go_num, HT2, by first | rfl | trivial⟩
              | ((repeat apply Exists.intro); exact ⟨⟨j + 1, _, by omega, by go_num, HT2, by first | rfl | trivial⟩, rfl⟩)
          · have hd : (l[j].toList == k[j].toList) = false := by
              rw [beq_eq_false_iff_ne]
              exact fun e => he (ByteArray.ext (Array.ext' (by rw [Go.ByteArray.toList_eq, Go.ByteArray.toList_eq] at e; exact e)))
            have hne : decide (l = k) = false := by
              simp only [decide_eq_false_iff_not]
              intro h; subst h; exact he rfl
            have HNE := hide (HRR.out.trans hne)
            clear he HT hne
            go_wp2
            go_quiet (fail)
            go_wp2
            go_ret
            exact ⟨ret_bool HNE.out.symm, _, by rw [World.drewN_drewN]⟩
        · obtain rfl : j = l.length := by omega
          have he : l = k := by
            have h1 := HT.out
            rw [List.take_of_length_le (by omega), List.take_of_length_le (by have := HL.out; omega)] at h1
            exact h1
          have hne : decide (l = k) = true := by simp [he]
          have HNE := hide (HRR.out.trans hne)
          clear HT he hne hcell1 hcell2
          go_wp2
          go_ret
          exact ⟨ret_bool HNE.out.symm, n, rfl⟩
    · have h1 : l = [] := List.eq_nil_of_length_eq_zero (by omega)
      have h2 : k = [] := List.eq_nil_of_length_eq_zero (by omega)
      subst h1 h2
      clear h g hl hk hlen hp e1
      go_enter Try.func10, Try.ntmps10
      go_wp2
      refine wp_loop_rounds 2 ?_
      rw [rounds_succ]; go_wp2
      go_ret
      exact ⟨rfl, 0, rfl⟩
  · have e1 : ((l.length : Int) != (k.length : Int)) = true := by simp; omega
    have e2 : decide (l = k) = false := by simp; intro h; rw [h] at hlen; exact hlen rfl
    rw [e2]
    clear e2 hlen h g
    go_enter Try.func10, Try.ntmps10
    go_wp2
    go_ret
    exact ⟨rfl, 0, rfl⟩
end Go.Proofs.Ytodnnhhlpinpbaa
