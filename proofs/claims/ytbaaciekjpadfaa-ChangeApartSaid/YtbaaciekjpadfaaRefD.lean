/- Contracts of the law's helpers: too many edits or too long; are two lists of edits the same. -/
import Derived.Test.YtbaaciekjpadfaaRefA
namespace Go.Proofs.Ytbaaciekjpadfaa
open Go.ChangeShapes Go.WideShapes Go.ChangeAt Go.RowKit
open SpanM EdM
attribute [local go_sem ↓] Go.wp_at_zero Go.wp_at_succ
attribute [local go_sem] later_cell later_frozen
def MuchPost (l : List Ed) (w : World) (e : Ending) (w' : World) : Prop := ∃ r, e = .returned (.bool r) ∧ (r = false → l.length ≤ 20 ∧ ∀ x ∈ l, x.2.size ≤ 200) ∧ Below w.heap.size w w'
set_option maxRecDepth 100000 in
set_option maxHeartbeats 4000000 in
theorem much_any (v : Value) (l : List Ed) (w : World) (h : EdAt w v l) (hl : l.length ≤ maxLen) :
    Calls Try.prog 13 #[.int .i64 20, .int .i64 200, v] w (MuchPost l w) := by
  obtain ⟨aA, cA, rfl⟩ := edat_len h
  have W0 := hide h
  unfold maxLen at hl
  clear h
  by_cases hlen : l.length ≤ 20
  · have d0 : decide (20 < (l.length : Int)) = false := by simp; omega
    go_enter Try.func13, Try.ntmps13
    go_wp2
    go_loopw [1, 7] (fun n i wr => ∃ k m : Nat, i = .int .i64 k ∧ k ≤ l.length ∧ n = .int .i64 m ∧ m ≤ 200 ∧ Hid (∀ x ∈ l.take k, x.2.size ≤ 200) ∧ Below w.heap.size w wr) (fun _ i _ => l.length - (intOf i).toNat)
    case atStart => exact ⟨0, 200, rfl, Nat.zero_le _, rfl, Nat.le_refl _, hide (by simp), bl_refl w⟩
    case round =>
      obtain ⟨k, m, rfl, hk, rfl, hm, HX, hbl⟩ := hrel
      by_cases hlt : k < l.length
      · obtain ⟨b1, o1, c1, hv1, hc1, hm1, hlb1, hcell1⟩ := edat_some (edat_below W0.out hbl) (by omega)
        injection hv1 with hv1 _ hv1c
        subst hv1 hv1c
        unfold maxLen at hm1
        obtain ⟨x1, x2, x3⟩ := hcell1 k hlt
        have hsn : l.take (k + 1) = l.take k ++ [l[k]] := List.take_succ_eq_append_getElem hlt
        clear hcell1
        generalize l[k] = s at *
        obtain ⟨⟨f, t⟩, x⟩ := s
        replace x3 : wr.cell? ⟨b1, o1 + k * 3 + 2, none⟩ = some (.string x) := x3
        have hnx : x.size ≤ 200 → ∀ y ∈ l.take (k + 1), y.2.size ≤ 200 := fun hx y hy => by
          rw [hsn] at hy
          rcases List.mem_append.1 hy with hy | hy
          · exact HX.out y hy
          · rw [List.mem_singleton] at hy; subst hy; exact hx
        have HNX := hide hnx
        clear hsn hnx HX x1 x2
        by_cases hb : x.size ≤ m
        · have d1 : decide ((m : Int) < (x.size : Int)) = false := by simp; omega
          have hw1 : IntKind.i64.wrap ((m : Int) - (x.size : Int)) = ((m - x.size : Nat) : Int) := by rw [IntWalk.i64_in _ (by omega)]; omega
          have HN2 := hide (HNX.out (by omega))
          clear HNX
          go_wp2
          refine ⟨?_, by first | (simp [intOf]; done) | (simp [intOf]; omega)⟩
          first
            | exact ⟨k + 1, m - x.size, by go_num, by omega, by first | rfl | (congr 1; omega), by omega, HN2, hbl⟩
            | ((repeat apply Exists.intro); exact ⟨⟨k + 1, m - x.size, by go_num, by omega, by first | rfl | (congr 1; omega), by omega, HN2, hbl⟩, rfl⟩)
        · have d1 : decide ((m : Int) < (x.size : Int)) = true := by simp; omega
          clear HNX
          go_wp2
          go_ret
          exact ⟨_, rfl, (fun h => absurd h (by decide)), hbl⟩
      · obtain rfl : k = l.length := by omega
        have hx := HX.out
        rw [List.take_length] at hx
        have HX2 := hide hx
        clear HX hx
        go_wp2
        go_ret
        exact ⟨false, rfl, fun _ => ⟨hlen, HX2.out⟩, hbl⟩
  · have d0 : decide (20 < (l.length : Int)) = true := by simp; omega
    clear hlen
    go_enter Try.func13, Try.ntmps13
    go_wp2
    go_ret
    exact ⟨_, rfl, (fun h => absurd h (by decide)), bl_refl w⟩
theorem tl_iff (a b : ByteArray) : a.toList = b.toList ↔ a = b := by
  rw [Go.ByteArray.toList_eq, Go.ByteArray.toList_eq]; exact ⟨fun h => ByteArray.ext (Array.ext' h), fun h => by rw [h]⟩
theorem neq_ed (a b : Ed) (w : World) : (binOp .neq 45 (.agg #[.int .i64 a.1.1, .int .i64 a.1.2, .string a.2]) (.agg #[.int .i64 b.1.1, .int .i64 b.1.2, .string b.2])).run Try.prog w = .ok (.bool (!decide (a = b))) w := by
  obtain ⟨⟨a1, a2⟩, a3⟩ := a
  obtain ⟨⟨b1, b2⟩, b3⟩ := b
  show (binOp .neq 45 (.agg #[.int .i64 a1, .int .i64 a2, .string a3]) (.agg #[.int .i64 b1, .int .i64 b2, .string b3])).run Try.prog w = .ok (.bool (!decide (((a1, a2), a3) = ((b1, b2), b3)))) w
  go_simp
  by_cases h1 : a1 = b1 <;> by_cases h2 : a2 = b2 <;> by_cases h3 : a3 = b3 <;> simp [h1, h2, h3, tl_iff]
theorem eqgn_ed (x y : Operand) (a b : Ed) (w : World) : (eqGuard .neq 45 x y (.agg #[.int .i64 a.1.1, .int .i64 a.1.2, .string a.2]) (.agg #[.int .i64 b.1.1, .int .i64 b.1.2, .string b.2])).run Try.prog w = .ok () w :=
  run_eqGuard_agg _ _ _ _ _ _ _ (by kernel_rfl)
theorem take_eq_succE {α : Type} (l m : List α) (k : Nat) (h : k < l.length) (g : k < m.length) (e : l.take k = m.take k) (e2 : l[k] = m[k]) : l.take (k + 1) = m.take (k + 1) := by
  rw [List.take_succ_eq_append_getElem h, List.take_succ_eq_append_getElem g, e, e2]
attribute [local go_sem] eqgn_ed
attribute [local go_sem ↓] neq_ed
set_option maxRecDepth 100000 in
set_option maxHeartbeats 4000000 in
theorem edits_any (v u : Value) (l k : List Ed) (r : Bool) (w : World) (h : EdAt w v l) (g : EdAt w u k) (hl : l.length ≤ 1000) (hk : k.length ≤ 1000) (hr : decide (l = k) = r) :
    Calls Try.prog 21 #[v, u] w fun e w' => e = .returned (.bool r) ∧ Below w.heap.size w w' := by
  obtain ⟨a, c, rfl⟩ := edat_len h
  obtain ⟨b, d, rfl⟩ := edat_len g
  by_cases hlen : l.length = k.length
  · have e1 : ((l.length : Int) != (k.length : Int)) = false := by simp [hlen]
    by_cases hp : 0 < l.length
    · obtain ⟨b1, o1, c1, hv1, hc1, hm1, _, hcell1⟩ := edat_some h hp
      obtain ⟨b2, o2, c2, hv2, hc2, hm2, _, hcell2⟩ := edat_some g (by omega)
      injection hv1 with hv1 _ hv1c
      injection hv2 with hv2 _ hv2c
      subst hv1 hv2 hv1c hv2c
      unfold maxLen at hm1 hm2
      clear h g hp
      have HRR := hide hr.symm
      clear hr
      have HL := hide hlen
      have hlen' : l.length ≤ k.length := by omega
      clear hlen
      go_enter Try.func21, Try.ntmps21
      go_wp2
      go_loopw [5] (fun i wr => ∃ j n : Nat, j ≤ l.length ∧ i = .int .i64 j ∧ Hid (l.take j = k.take j) ∧ w.drewN n = wr)
        (fun i _ => l.length - (intOf i).toNat)
      case atStart => exact ⟨0, 0, Nat.zero_le _, rfl, hide rfl, rfl⟩
      case round =>
        obtain ⟨j, n, hj, rfl, HT, rfl⟩ := hrel
        by_cases hlt : j < l.length
        · have x1 := hcell1 j hlt
          have x2 := hcell2 j (by omega)
          obtain ⟨x11, x12, x13⟩ := x1
          obtain ⟨x21, x22, x23⟩ := x2
          by_cases he : l[j] = k[j]
          · have hd : (!decide (l[j] = k[j])) = false := by simp [he]
            have HT2 := hide (take_eq_succE l k j hlt (by omega) HT.out he)
            clear he HT
            go_wp2
            go_quiet (fail)
            go_wp2
            refine ⟨?_, by first | (simp [intOf]; done) | (simp [intOf]; omega)⟩
            first
              | exact ⟨j + 1, _, by omega, by go_num, HT2, by first | rfl | trivial⟩
              | ((repeat apply Exists.intro); exact ⟨⟨j + 1, _, by omega, by go_num, HT2, by first | rfl | trivial⟩, rfl⟩)
          · have hd : (!decide (l[j] = k[j])) = true := by simp [he]
            have hne : decide (l = k) = false := by
              simp only [decide_eq_false_iff_not]
              intro h; subst h; exact he rfl
            have HNE := hide (HRR.out.trans hne)
            clear he HT hne
            go_wp2
            go_quiet (fail)
            go_wp2
            go_ret
            exact ⟨ret_bool HNE.out.symm, by rw [World.drewN_drewN]; exact bl_drewN (bl_refl w) _⟩
        · obtain rfl : j = l.length := by omega
          have he : l = k := by
            have h1 := HT.out
            rw [List.take_of_length_le (by omega), List.take_of_length_le (by have := HL.out; omega)] at h1
            exact h1
          have hne : decide (l = k) = true := by simp [he]
          have HNE := hide (HRR.out.trans hne)
          clear HT he hne hcell1 hcell2
          go_wp2
          go_ret
          exact ⟨ret_bool HNE.out.symm, bl_drewN (bl_refl w) _⟩
    · have h1 : l = [] := List.eq_nil_of_length_eq_zero (by omega)
      have h2 : k = [] := List.eq_nil_of_length_eq_zero (by omega)
      subst h1 h2
      have hr' : true = r := by rw [← hr]; simp
      subst hr'
      clear h g hl hk hlen hp e1 hr
      go_enter Try.func21, Try.ntmps21
      go_wp2
      refine wp_loop_rounds 2 ?_
      rw [rounds_succ]; go_wp2
      go_ret
      exact ⟨rfl, bl_refl w⟩
  · have e1 : ((l.length : Int) != (k.length : Int)) = true := by simp; omega
    have e2 : false = r := by rw [← hr]; simp; intro h; rw [h] at hlen; exact hlen rfl
    subst e2
    clear hr hlen h g
    go_enter Try.func21, Try.ntmps21
    go_wp2
    go_ret
    exact ⟨rfl, bl_refl w⟩
end Go.Proofs.Ytbaaciekjpadfaa
