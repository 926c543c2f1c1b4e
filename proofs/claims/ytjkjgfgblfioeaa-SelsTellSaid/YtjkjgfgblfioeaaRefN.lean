/- Contract of chapter 8's reference: selections put in order, or refused. Condition: short slices. -/
import Derived.Test.YtjkjgfgblfioeaaSelF
import Derived.Test.YtjkjgfgblfioeaaRefL
namespace Go.Proofs.Ytjkjgfgblfioeaa
open Go.ChangeShapes Go.WideShapes Go.ChangeAt Go.RowKit
open SpanM SelM
attribute [local go_sem ↓] Go.wp_at_zero Go.wp_at_succ
attribute [local go_sem] later_cell later_frozen fld_sp0 fld_sp1
set_option maxRecDepth 100000
set_option linter.unusedVariables false
theorem rmayS (a : Sp) (n : Int) (r : Bool) (w : World) (hr : mayB a n = r) : Calls Try.prog 21 #[.agg #[.int .i64 a.1, .int .i64 a.2], .int .i64 n] w fun e w' => e = .returned (.bool r) ∧ Below w.heap.size w w' := by subst hr; exact rmay_any a n w
set_option maxHeartbeats 8000000 in
theorem rnorm_any (v : Value) (l : List Sp) (n : Int) (w : World) (h : SpAt w v l) (hl : l.length ≤ 1000) :
    Calls Try.prog 11 #[.int .i64 n, v] w (NormPost w (nrE n l) (nrL n l)) := by
  obtain ⟨vA, vc, rfl⟩ := spat_len h
  by_cases h0 : l.length = 0
  · obtain ⟨e1, e2⟩ := nr_zero n l h0
    rw [e1, e2, h0]
    clear h hl e1 e2
    go_enter Try.func11, Try.ntmps11
    go_wp2
    go_ret2
    exact post_nil (bl_refl w)
  · by_cases h64 : 64 < l.length
    · obtain ⟨e1, e2⟩ := nr_full n l h64
      rw [e1, e2]
      have g0 : ((l.length : Int) == 0) = false := beq_eq_false_iff_ne.2 (by omega)
      have g1 : decide ((64 : Int) < (l.length : Int)) = true := decide_eq_true (by omega)
      have g2 : decide (64 < l.length) = true := decide_eq_true h64
      clear h hl e1 e2 h0 h64
      generalize l.length = N at *
      go_enter Try.func11, Try.ntmps11
      go_wp2
      go_ret2
      exact post_nil (bl_refl w)
    · have hl64 : l.length ≤ 64 := by omega
      have g0 : ((l.length : Int) == 0) = false := beq_eq_false_iff_ne.2 (by omega)
      have g1 : decide ((64 : Int) < (l.length : Int)) = false := decide_eq_false (by omega)
      have g2 : decide (64 < l.length) = false := decide_eq_false h64
      obtain ⟨x, o, c, hv, hc1, hm1, hlb1, _⟩ := spat_some h (by omega)
      injection hv with hv _ hvc
      subst hv hvc
      have H := hide h
      have H0 := hide h0
      have H64 := hide h64
      clear h h0 h64 hl
      go_enter Try.func11, Try.ntmps11
      go_wp2
      clear g0 g1 g2
      go_loopw [6] (fun i wr => ∃ k : Nat, i = .int .i64 k ∧ k ≤ l.length ∧ Hid (∀ j (hj : j < l.length), j < k → mayB (ky l[j]) n = true) ∧ Hid (Below w.heap.size w wr)) (fun i _ => l.length - (intOf i).toNat)
      case atStart => exact ⟨0, rfl, Nat.zero_le _, hide (fun j _ h => by omega), hide (bl_refl w)⟩
      case round =>
        obtain ⟨k, rfl, hk, HA, HB⟩ := hrel
        by_cases hlt : k < l.length
        · obtain ⟨x', o', c', hv', _, _, _, hcell⟩ := spat_some (spat_below H.out HB.out) (by omega)
          injection hv' with hv' _ hvc'
          injection hv' with hv'
          injection hv' with hvx hvo _
          subst hvx hvo hvc'
          obtain ⟨y1, y2⟩ := hcell k hlt
          clear hcell
          obtain ⟨r, hr⟩ : ∃ r, mayB (ky l[k]) n = r := ⟨_, rfl⟩
          have HR := hide hr
          obtain ⟨s, hs⟩ : ∃ s, l[k] = s := ⟨_, rfl⟩
          rw [hs] at y1 y2 hr
          obtain ⟨ks, hks⟩ : ∃ ks, ky (s.1, s.2) = ks := ⟨_, rfl⟩
          have hr2 : mayB ks n = r := by rw [← hks]; exact hr
          have HS := hide (fun W => rspan_b s.1 s.2 ks hks W)
          have HM := hide (fun W => rmayS ks n r W hr2)
          have hb1 := HB.out
          have gl : decide (k < l.length) = true := decide_eq_true hlt
          clear hr hs hks hr2
          go_wp2_with fail
          refine (HS.out _).mono ?_
          rintro e w2 ⟨rfl, hb2⟩
          go_wp2_with fail
          refine (HM.out _).mono ?_
          rintro e w3 ⟨rfl, hb3⟩
          have HB3 := hide (bl_trans (bl_trans hb1 hb2) hb3)
          clear hb1 hb2 hb3 y1 y2
          cases r
          · obtain ⟨e1, e2⟩ := nr_bad n l H0.out H64.out k hlt HR.out
            have HE1 := hide e1
            have HE2 := hide e2
            clear e1 e2
            go_wp2
            go_ret2
            rw [HE1.out, HE2.out]
            exact post_nil HB3.out
          · have HA2 := hide (show ∀ j (hj : j < l.length), j < k + 1 → mayB (ky l[j]) n = true from fun j hj h => by
              rcases Nat.eq_or_lt_of_le (Nat.le_of_lt_succ h) with h1 | h1
              · subst h1; exact HR.out
              · exact HA.out j hj h1)
            clear HR HA
            go_wp2
            refine ⟨?_, by first | (simp [intOf]; done) | (simp [intOf]; omega)⟩
            first
              | exact ⟨k + 1, by go_num, by omega, HA2, HB3⟩
              | ((repeat apply Exists.intro); exact ⟨⟨k + 1, by go_num, by omega, HA2, HB3⟩, rfl⟩)
        · obtain rfl : k = l.length := by omega
          obtain ⟨e1, e2⟩ := nr_good n l H0.out H64.out (fun j hj => HA.out j hj hj)
          have HE1 := hide e1
          have HE2 := hide e2
          have gl : decide (l.length < l.length) = false := by simp
          have H2 := hide (spat_below H.out HB.out)
          clear e1 e2 HA
          go_wp2_with fail
          refine (rmerge_any _ l _ _ H2.out (by omega) rfl).mono ?_
          rintro e w3 ⟨v3, rfl, hb4, ho3⟩
          have ho4 := own_base ho3 HB.out.size
          have hb5 := bl_trans HB.out hb4
          clear hb4 ho3
          go_wp2
          go_ret2
          rw [HE1.out, HE2.out]
          exact ⟨_, rfl, hb5, ho4⟩
end Go.Proofs.Ytjkjgfgblfioeaa
