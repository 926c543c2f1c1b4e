/- Layer 8's laws: what every program answers that is one. -/
import Derived.Test.YtjkjgfgblfioeaaSelP
namespace Go.Proofs.Ytjkjgfgblfioeaa
open Go.ChangeShapes Go.WideShapes Go.ChangeAt Go.RowKit
open SpanM SelM EdM
attribute [local go_sem ↓] Go.wp_at_zero Go.wp_at_succ
set_option maxRecDepth 100000
set_option linter.unusedVariables false
theorem spat_one (w : World) (a b : Int) : SpAt (w.alloc (.cells #[.int .i64 a, .int .i64 b] 38)) (.slice (some ⟨w.heap.size, 0, none⟩) 1 1) [(a, b)] := by
  refine .inr ⟨⟨w.heap.size, 0, none⟩, 1, rfl, Nat.le_refl _, by decide, fun i hi => ?_⟩
  obtain rfl : i = 0 := by simpa using hi
  exact ⟨World.cell?_alloc_mark w #[.int .i64 a, .int .i64 b] 38 (0, 0) 0, World.cell?_alloc_mark w #[.int .i64 a, .int .i64 b] 38 (0, 0) 1⟩
theorem spat_two (w : World) (a b c d : Int) : SpAt (w.alloc (.cells #[.int .i64 a, .int .i64 b, .int .i64 c, .int .i64 d] 38)) (.slice (some ⟨w.heap.size, 0, none⟩) 2 2) [(a, b), (c, d)] := by
  refine .inr ⟨⟨w.heap.size, 0, none⟩, 2, rfl, Nat.le_refl _, by decide, fun i hi => ?_⟩
  have h : i = 0 ∨ i = 1 := by simp at hi; omega
  rcases h with rfl | rfl
  · exact ⟨World.cell?_alloc_mark w #[.int .i64 a, .int .i64 b, .int .i64 c, .int .i64 d] 38 (0, 0) 0, World.cell?_alloc_mark w #[.int .i64 a, .int .i64 b, .int .i64 c, .int .i64 d] 38 (0, 0) 1⟩
  · exact ⟨World.cell?_alloc_mark w #[.int .i64 a, .int .i64 b, .int .i64 c, .int .i64 d] 38 (0, 0) 2, World.cell?_alloc_mark w #[.int .i64 a, .int .i64 b, .int .i64 c, .int .i64 d] 38 (0, 0) 3⟩
theorem edat_one (w : World) (a b : Int) (x : ByteArray) : EdAt (w.alloc (.cells #[.int .i64 a, .int .i64 b, .string x] 44)) (.slice (some ⟨w.heap.size, 0, none⟩) 1 1) [((a, b), x)] := allocE w [((a, b), x)] (by simp)
theorem n_ex : nrE 9 [(5, 3), (5, 7)] = 0 ∧ nrL 9 [(5, 3), (5, 7)] = [(7, 3)] := by decide +kernel
theorem m_ex8 : mrgF (sortL ([(2, 2)].map (mvS (sortE (sortE [((2, 2), (⟨#[120, 121]⟩ : ByteArray))]))))) = [(4, 4)] := by decide +kernel
set_option maxHeartbeats 1000000 in
theorem awake8_any (w : World) : Calls Try.prog 9 #[] w fun e w' => e = .returned (.bool true) ∧ Below w.heap.size w w' := by
  have hN := norm_any stab20 _ [(5, 3), (5, 7)] 9 _ (spat_two w 5 3 5 7) (.inl (by decide))
  obtain ⟨e1, e2⟩ := n_ex
  rw [e1, e2] at hN
  have HN := hide hN
  clear hN e1 e2
  have HM := hide (fun (W W' : World) v ve (h : SpAt W v [(2, 2)]) (he : EdAt W ve [((2, 2), (⟨#[120, 121]⟩ : ByteArray))]) => smove_any stab20 v ve [(2, 2)] [(4, 4)] [((2, 2), ⟨#[120, 121]⟩)] W h he (by decide) (by decide) (by decide) (by intro e he; rw [List.mem_singleton] at he; subst he; unfold Good; decide) (by intro s hs; rw [List.mem_singleton] at hs; subst hs; decide) m_ex8)
  have hb0 : Below w.heap.size w (w.alloc (.cells #[.int .i64 5, .int .i64 3, .int .i64 5, .int .i64 7] 38)) := bl_alloc (bl_refl w) _
  have HB0 := hide hb0
  clear hb0
  go_enter Try.func9, Try.ntmps9
  go_wp2_with fail
  (with_reducible refine HN.out.mono ?_)
  rintro e w1 ⟨v1, rfl, hb1, ho1⟩
  have B1 := hide (bl_trans HB0.out hb1)
  clear hb1
  rcases own_form ho1 with ⟨_, g1, g2⟩ | ⟨g, c, rfl, g1, g2, g3, g4, g5⟩
  · cases g1
  have x1 : w1.cell? ⟨g, 0, none⟩ = some (.int .i64 7) := by rw [World.ownsRow.cellAt ho1 0 (by simp)]; rfl
  have x2 : w1.cell? ⟨g, 1, none⟩ = some (.int .i64 3) := by rw [World.ownsRow.cellAt ho1 1 (by simp)]; rfl
  clear ho1 g1 g2 g3 g4 g5
  have hs1 := spat_one w1 2 2
  have hq1 : Below w1.heap.size w1 (w1.alloc (.cells #[.int .i64 2, .int .i64 2] 38)) := bl_alloc (bl_refl w1) _
  have hq2 : Below w1.heap.size w1 ((w1.alloc (.cells #[.int .i64 2, .int .i64 2] 38)).alloc (.cells #[.int .i64 2, .int .i64 2, .string ⟨#[120, 121]⟩] 44)) := bl_alloc hq1 _
  have hs2 := spat_below hs1 (bl_alloc (bl_refl _) (.cells #[.int .i64 2, .int .i64 2, .string ⟨#[120, 121]⟩] 44))
  have he2 := edat_one (w1.alloc (.cells #[.int .i64 2, .int .i64 2] 38)) 2 2 ⟨#[120, 121]⟩
  have hsz : (w1.alloc (.cells #[.int .i64 2, .int .i64 2] 38)).heap.size = w1.heap.size + 1 := by simp
  rw [hsz] at he2
  have HMM := hide (HM.out _ w1 _ _ hs2 he2)
  have HQ := hide hq2
  clear hsz hs1 hq1 hq2 hs2 he2 HM
  go_wp2_with fail
  (with_reducible refine HMM.out.mono ?_)
  rintro e w2 ⟨v2, rfl, hb2, ho2⟩
  have hb3 := bl_trans HQ.out hb2
  have x1 := cell_later hb3 x1
  have x2 := cell_later hb3 x2
  have B3 := hide (bl_trans B1.out hb3)
  clear hb2 hb3
  rcases own_form ho2 with ⟨_, g1, g2⟩ | ⟨b, c2, rfl, g1, g2, g3, g4, g5⟩
  · cases g1
  have y1 : w2.cell? ⟨b, 0, none⟩ = some (.int .i64 4) := by rw [World.ownsRow.cellAt ho2 0 (by simp)]; rfl
  have y2 : w2.cell? ⟨b, 1, none⟩ = some (.int .i64 4) := by rw [World.ownsRow.cellAt ho2 1 (by simp)]; rfl
  clear ho2 g1 g2 g3 g4 g5
  go_wp2
  go_ret
  exact ⟨rfl, by first | exact B3.out | exact bl_drew B3.out⟩
end Go.Proofs.Ytjkjgfgblfioeaa
