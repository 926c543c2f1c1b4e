/- Contract of layer 7's awake: it returns true. No condition. -/
import Derived.Test.YtjmoeahlbgdkbaaTabI
import Derived.Test.YtjmoeahlbgdkbaaEdL
namespace Go.Proofs.Ytjmoeahlbgdkbaa
open Go.ChangeShapes Go.WideShapes Go.ChangeAt Go.RowKit
open SpanM EdM
attribute [local go_sem ↓] Go.wp_at_zero Go.wp_at_succ
set_option maxRecDepth 100000
theorem mayN_one (f t : Int) (x : ByteArray) (h0 : 0 ≤ f) (h1 : f ≤ t) (h2 : t ≤ 65536) : mayN [((f, t), x)] = 0 := by
  have hm : mayB (f, t) 65536 = true := by unfold mayB; simp; omega
  have ha : apF (sortS [(f, t)]) = true := by
    rw [sort_lit [(f, t)] [(f, t)] (.refl _) (List.pairwise_singleton _ _), apF_at]
    intro i hi
    obtain rfl : i = 0 := by simpa using hi
    exact ⟨h1, fun j hj => by omega⟩
  unfold mayN
  simp only [List.all_cons, List.all_nil, List.map_cons, List.map_nil, hm, ha]
  rfl
theorem rise_one (r : Mk) : RiseM [r] := List.pairwise_singleton _ _
/-- A range alone, found. -/
theorem got_one {r : Mk} {x : Int} {v : Value} {ok : Bool} (h : GotM [r] x v ok) (hx : r.id = x) : v = vR r ∧ ok = true := by
  rcases h with ⟨h1, i, hi, _, h3⟩ | ⟨_, _, h3⟩
  · obtain rfl : i = 0 := by simpa using hi
    exact ⟨h3, h1⟩
  · exact absurd hx (h3 r (by simp))
set_option maxHeartbeats 4000000 in
theorem awake7_any (w : World) : Calls Try.prog 13 #[] w fun e w' => e = .returned (.bool true) ∧ Below w.heap.size w w' := by
  have T0 := hide (tab_new w)
  have B0 := hide (bl_alloc (bl_refl w) (.cells #[.int .i64 0, .slice none 0 0] 75))
  have hsz : w.heap.size ≤ (w.alloc (.cells #[.int .i64 0, .slice none 0 0] 75)).heap.size := by simp
  have HMV := hide (show mvAll (sortE [((2, 2), (⟨#[120, 121]⟩ : ByteArray))]) [⟨1, 2, 5, false, false, 0⟩] = [⟨1, 2, 7, false, false, 0⟩] by rw [sort_one]; rfl)
  go_enter Try.func13, Try.ntmps13
  go_wp2_with fail
  refine (mnew_any _).mono ?_
  rintro e w1 ⟨rfl, hw1⟩
  rw [hw1] at T0 B0 hsz
  clear hw1
  go_wp2_with fail
  refine (add_any w.heap.size w.heap.size 0 _ [] 2 5 false false _ T0.out (by omega) hsz (by decide) (by decide)).mono ?_
  rintro e w2 ⟨rfl, ⟨v2, T2⟩, B2⟩
  rw [List.nil_append] at T2
  have hba : Below w2.heap.size w2 (w2.alloc (.cells #[.int .i64 2, .int .i64 2, .string ⟨#[120, 121]⟩] 61)) := bl_alloc (bl_refl w2) _
  have T3 := T2.later hba
  have B3 : Below w.heap.size w (w2.alloc (.cells #[.int .i64 2, .int .i64 2, .string ⟨#[120, 121]⟩] 61)) := bl_alloc (B0.out.trans B2) _
  have hE := alloc1 w2 2 2 ⟨#[120, 121]⟩
  have HMOVE := hide (tmove_any w.heap.size w.heap.size _ v2 _ _ _ _ T3 (rise_one _) (by decide) B3.size hE (by decide) (by intro e he; rw [List.mem_singleton] at he; subst he; unfold Good; decide) (mayN_one 2 2 _ (by decide) (by decide) (by decide)) (by intro r hr; rw [List.mem_singleton] at hr; subst hr; decide))
  clear T2 T3 hE T0
  go_wp2_with fail
  refine HMOVE.out.mono ?_
  rintro e w4 ⟨rfl, T4, B4⟩
  rw [show (0 : Int) + 1 = 1 from rfl, HMV.out] at T4
  have B5 := B3.trans B4
  have HT4 := hide T4
  clear T4 HMOVE HMV
  go_wp2_with fail
  refine (get_any w.heap.size w.heap.size _ _ _ 1 _ HT4.out (rise_one _) (by decide)).mono ?_
  rintro e w6 ⟨⟨r, ok, rfl, hgot⟩, hb6⟩
  obtain ⟨rfl, rfl⟩ := got_one hgot rfl
  have B7 := B5.trans (hb6.mono B5.size)
  have B8 : Below w.heap.size w (w6.alloc (.cells #[.int .i64 2, .int .i64 7, .bool false, .bool false, .int .i64 0] 43)) := bl_alloc B7 _
  clear hgot
  unfold vR
  go_wp2
  go_ret
  exact ⟨rfl, B8⟩
end Go.Proofs.Ytjmoeahlbgdkbaa
