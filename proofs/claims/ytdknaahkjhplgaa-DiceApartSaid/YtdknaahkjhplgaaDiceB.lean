/- Contracts of package dice as a law meets them; the layer's awake. -/
import Derived.Test.YtdknaahkjhplgaaDice
import Derived.Test.YtdknaahkjhplgaaArgs
import Derived.Test.YtdknaahkjhplgaaLow
namespace Go.Proofs.Ytdknaahkjhplgaa
open Go.ChangeShapes Go.WideShapes Go.ChangeAt Go.RowKit

theorem dnew_ints (w : World) (a : Option Addr) (n cap : Nat) (z : List Int) (h : IsInts .u32 w a n cap z) (hn : n ≤ 1000000) :
    Calls Try.prog 16 #[.slice a n cap] w fun e w' => ∃ b g, e = .returned (.pointer (some ⟨b, 0, none⟩)) ∧ w.heap.size ≤ b ∧ w.heap.size ≤ g ∧ b < w'.heap.size ∧ g < w'.heap.size ∧ DiceAt w' b g (z.take n) 0 ∧ Below w.heap.size w w' := by
  rcases h with ⟨rfl, rfl, rfl, rfl⟩ | ⟨x, rfl, hl, hm, hz, hcell, hwz⟩
  · exact dnew_nil w
  · refine dnew_some w x n cap (z.take n) (by simp; omega) hn ?_ ?_
    · intro y hy
      have := bounds_u32 (hwz y (List.mem_of_mem_take hy))
      omega
    · intro j hj
      rw [hcell j (by omega)]
      simp [List.getD, hj]
theorem next_at (w : World) (b g : Nat) (zs : List Int) (k : Nat) (last : Int) (h : DiceAt w b g (zs.drop k) last) (hk : k < zs.length) :
    Calls Try.prog 18 #[.pointer (some ⟨b, 0, none⟩)] w fun e w' => e = .returned (.int .u32 (zs.getD k 0)) ∧ DiceAt w' b g (zs.drop (k + 1)) (zs.getD k 0) ∧ w.grownBy w' (some b) := by
  have := next_any w b g _ last h
  rw [List.drop_eq_getElem_cons hk] at this
  have e : zs.getD k 0 = zs[k] := by simp [List.getD, hk]
  rw [e]
  exact this
theorem next_end (w : World) (b g : Nat) (zs : List Int) (k : Nat) (last : Int) (h : DiceAt w b g (zs.drop k) last) (hk : zs.length ≤ k) :
    Calls Try.prog 18 #[.pointer (some ⟨b, 0, none⟩)] w fun e w' => e = .returned (.int .u32 ((last * 1664525 + 1013904223) % 4294967296)) ∧ DiceAt w' b g (zs.drop (k + 1)) ((last * 1664525 + 1013904223) % 4294967296) ∧ w.grownBy w' (some b) := by
  have := next_any w b g _ last h
  rw [List.drop_of_length_le hk] at this
  rw [List.drop_of_length_le (by omega : zs.length ≤ k + 1)]
  exact this
theorem left_at (w : World) (b g : Nat) (zs : List Int) (k : Nat) (last : Int) (h : DiceAt w b g (zs.drop k) last) :
    Calls Try.prog 19 #[.pointer (some ⟨b, 0, none⟩)] w fun e w' => e = .returned (.int .i64 (zs.length - k : Nat)) ∧ w = w' := by
  have := left_any w b g _ last h
  rw [List.length_drop] at this
  exact this
theorem bl_next {a w w' : World} {b : Nat} (h : Below a.heap.size a w) (hg : w.grownBy w' (some b)) (hb : a.heap.size ≤ b) : Below a.heap.size a w' :=
  bl_grown h hg (fun k hk => by have := Option.some.inj hk; omega)
set_option maxRecDepth 100000 in
set_option maxHeartbeats 1000000 in
theorem awake1_any (w : World) :
    Calls Try.prog 15 #[] w fun e w' => e = .returned (.bool true) ∧ Below w.heap.size w w' := by
  go_enter Try.func15, Try.ntmps15
  go_wp2_with fail
  refine (dnew_some _ _ _ _ [7] rfl (by decide) (by simp) ?_).mono ?_
  · intro j hj
    obtain rfl : j = 0 := by simp at hj; omega
    simp only [Addr.add]
    go_simp
  rintro e w1 ⟨b, g, rfl, hb1, hg1, hb2, hg2, hd1, hbel1⟩
  have hb1' : w.heap.size ≤ b := by simp at hb1; omega
  clear hb1
  have hbl1 : Below w.heap.size w w1 := bl_trans (bl_alloc (bl_refl w) _) hbel1
  go_wp2_with fail
  refine (left_any w1 b g [7] 0 hd1).mono ?_
  rintro e w2 ⟨rfl, rfl⟩
  go_wp2_with fail
  refine (next_any w1 b g [7] 0 hd1).mono ?_
  rintro e w2 ⟨rfl, hd2, hgr2⟩
  have hbl2 := bl_next hbl1 hgr2 (by omega)
  simp only [nxt, List.tail_cons] at hd2 ⊢
  go_wp2_with fail
  refine (next_any w2 b g [] 7 hd2).mono ?_
  rintro e w3 ⟨rfl, hd3, hgr3⟩
  have hbl3 := bl_next hbl2 hgr3 (by omega)
  simp only [nxt, List.tail_nil] at hd3 ⊢
  go_wp2_with fail
  refine (left_any w3 b g [] _ hd3).mono ?_
  rintro e w4 ⟨rfl, rfl⟩
  go_wp2
  go_ret
  exact ⟨rfl, hbl3⟩
end Go.Proofs.Ytdknaahkjhplgaa
