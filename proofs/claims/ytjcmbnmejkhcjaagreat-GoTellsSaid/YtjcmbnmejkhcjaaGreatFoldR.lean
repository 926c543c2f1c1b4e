/- Contract of tally.Fold: the sums of four integers each. -/
import Derived.Test.YtjcmbnmejkhcjaaGreatTalB
import Derived.Test.YtjcmbnmejkhcjaaGreatLater
import Derived.Test.YtjcmbnmejkhcjaaGreatOwn
namespace Go.Proofs.YtjcmbnmejkhcjaaGreat
open Go.ChangeShapes Go.WideShapes Go.ChangeAt Go.RowKit

def foldW (f : Nat → Int) : Nat → Int
  | 0 => 0
  | k + 1 => wrap64 (foldW f k + f k)
/-- Four integers in the cells of block b, which may be written. -/
def Four (w : World) (b : Nat) (a0 a1 a2 a3 : Int) : Prop :=
  (w.cell? ⟨b, 0, none⟩ = some (.int .i64 a0) ∧ w.cell? ⟨b, 1, none⟩ = some (.int .i64 a1) ∧ w.cell? ⟨b, 2, none⟩ = some (.int .i64 a2) ∧ w.cell? ⟨b, 3, none⟩ = some (.int .i64 a3)) ∧
  w.frozen? ⟨b, 0, none⟩ = false ∧ w.frozen? ⟨b, 1, none⟩ = false ∧ w.frozen? ⟨b, 2, none⟩ = false ∧ w.frozen? ⟨b, 3, none⟩ = false
theorem Four.kept {w w' : World} {b : Nat} {a0 a1 a2 a3 : Int} (h : Four w b a0 a1 a2 a3) (hb : w'.heap[b]? = w.heap[b]?) : Four w' b a0 a1 a2 a3 := by
  obtain ⟨⟨c0, c1, c2, c3⟩, f0, f1, f2, f3⟩ := h
  refine ⟨⟨?_, ?_, ?_, ?_⟩, ?_, ?_, ?_, ?_⟩
  · rw [World.cell?_of_block (w := w) hb]; exact c0
  · rw [World.cell?_of_block (w := w) hb]; exact c1
  · rw [World.cell?_of_block (w := w) hb]; exact c2
  · rw [World.cell?_of_block (w := w) hb]; exact c3
  · rw [World.frozen?_of_block (w := w) hb]; exact f0
  · rw [World.frozen?_of_block (w := w) hb]; exact f1
  · rw [World.frozen?_of_block (w := w) hb]; exact f2
  · rw [World.frozen?_of_block (w := w) hb]; exact f3

def set4 (w : World) (b : Nat) (a0 a1 a2 a3 : Int) : World :=
  (((w.setCell ⟨b, 0, none⟩ (.int .i64 a0)).setCell ⟨b, 1, none⟩ (.int .i64 a1)).setCell ⟨b, 2, none⟩ (.int .i64 a2)).setCell ⟨b, 3, none⟩ (.int .i64 a3)
theorem set4_heap (w : World) (b : Nat) (a0 a1 a2 a3 : Int) (k : Nat) (h : k ≠ b) : (set4 w b a0 a1 a2 a3).heap[k]? = w.heap[k]? := by
  unfold set4
  rw [Below.heap_setCell _ _ _ _ h, Below.heap_setCell _ _ _ _ h, Below.heap_setCell _ _ _ _ h, Below.heap_setCell _ _ _ _ h]
theorem set4_size (w : World) (b : Nat) (a0 a1 a2 a3 : Int) : (set4 w b a0 a1 a2 a3).heap.size = w.heap.size := by
  unfold set4; simp [World.setCell]
theorem four_set {w : World} {b : Nat} {x0 x1 x2 x3 : Int} (h : Four w b x0 x1 x2 x3) (a0 a1 a2 a3 : Int) : Four (set4 w b a0 a1 a2 a3) b a0 a1 a2 a3 := by
  obtain ⟨⟨c0, c1, c2, c3⟩, f0, f1, f2, f3⟩ := h
  unfold set4
  refine ⟨⟨?_, ?_, ?_, ?_⟩, ?_, ?_, ?_, ?_⟩ <;> go_simp
theorem bl_set4 {a w : World} (h : Below a.heap.size a w) {b : Nat} (hb : a.heap.size ≤ b) (a0 a1 a2 a3 : Int) : Below a.heap.size a (set4 w b a0 a1 a2 a3) := by
  unfold set4
  exact bl_set (bl_set (bl_set (bl_set h hb _) hb _) hb _) hb _
set_option maxRecDepth 100000 in
set_option maxHeartbeats 1000000 in
theorem fold_any (w : World) (g off n cap : Nat) (f : Nat → Nat → Int) (hn : n ≤ 1000) (hnc : n ≤ cap) (hcap : cap ≤ 9223372036854775807)
   (hc : ∀ i, i < n → w.cell? ⟨g, off + i * 4, none⟩ = some (.int .i64 (f i 0)) ∧ w.cell? ⟨g, off + i * 4 + 1, none⟩ = some (.int .i64 (f i 1)) ∧ w.cell? ⟨g, off + i * 4 + 2, none⟩ = some (.int .i64 (f i 2)) ∧ w.cell? ⟨g, off + i * 4 + 3, none⟩ = some (.int .i64 (f i 3))) :
    Calls Tryz.prog 92 #[.slice (some ⟨g, off, none⟩) n cap] w fun e w' => e = .returned (.agg #[.int .i64 (foldW (f · 0) n), .int .i64 (foldW (f · 1) n), .int .i64 (foldW (f · 2) n), .int .i64 (foldW (f · 3) n)]) ∧ Below w.heap.size w w' := by
  have HC := hide hc
  clear hc
  have h1 : Four ((w.alloc (.cells #[.int .i64 0, .int .i64 0, .int .i64 0, .int .i64 0] 97)).alloc (.cells #[.int .i64 0, .int .i64 0, .int .i64 0, .int .i64 0] 97)) w.heap.size 0 0 0 0 := by
    refine ⟨⟨?_, ?_, ?_, ?_⟩, ?_, ?_, ?_, ?_⟩ <;> go_simp
  have h2 : Four ((w.alloc (.cells #[.int .i64 0, .int .i64 0, .int .i64 0, .int .i64 0] 97)).alloc (.cells #[.int .i64 0, .int .i64 0, .int .i64 0, .int .i64 0] 97)) (w.heap.size + 1) 0 0 0 0 := by
    refine ⟨⟨?_, ?_, ?_, ?_⟩, ?_, ?_, ?_, ?_⟩ <;> go_simp
  go_enter Tryz.func92, Tryz.ntmps92
  go_wp2
  go_loopw [8] (fun i wr => ∃ (k : Nat), k ≤ n ∧ i = .int .i64 k ∧ Four wr w.heap.size 0 0 0 0 ∧ Four wr (w.heap.size + 1) (foldW (f · 0) k) (foldW (f · 1) k) (foldW (f · 2) k) (foldW (f · 3) k) ∧ w.heap.size + 2 ≤ wr.heap.size ∧ Below w.heap.size w wr)
    (fun i _ => n - (intOf i).toNat)
  case atStart => exact ⟨0, Nat.zero_le _, rfl, h1, h2, by simp, bl_alloc (bl_alloc (bl_refl w) _) _⟩
  case round =>
    obtain ⟨k, hk, rfl, hr, hs, hsz, hbl⟩ := hrel
    clear h1 h2
    by_cases hlt : k < n
    · obtain ⟨c0, c1, c2, c3⟩ := HC.out k hlt
      have c0' := cell_later hbl c0
      have c1' := cell_later hbl c1
      have c2' := cell_later hbl c2
      have c3' := cell_later hbl c3
      clear c0 c1 c2 c3
      have HR := hide hr
      obtain ⟨⟨d0, d1, d2, d3⟩, e0, e1, e2, e3⟩ := hs
      clear hr
      have z1 : w.heap.size + 1 < wr.heap.size := by omega
      have z0 : w.heap.size < wr.heap.size := by omega
      go_wp2_with fail
      refine (plus_any _ _ _ _ _ _ _ _ _).mono ?_
      rintro e w1 ⟨rfl, hb1⟩
      obtain ⟨g1, g2⟩ := bl_cell hb1
      have gs := hb1.size
      have z2 : w.heap.size + 1 < w1.heap.size := by simp at gs; omega
      have z3 : w.heap.size < w1.heap.size := by omega
      clear gs
      have k0 := hb1.block w.heap.size (by simp; omega)
      have k1 := hb1.block (w.heap.size + 1) (by simp; omega)
      rw [Below.heap_alloc wr _ _ (by omega)] at k0 k1
      have HS := hide (Four.kept ⟨⟨d0, d1, d2, d3⟩, e0, e1, e2, e3⟩ k1)
      have HR1 := hide (HR.out.kept k0)
      clear k0 k1
      have hbl1 : Below w.heap.size w w1 := bl_trans (bl_alloc hbl _) hb1
      go_wp2
      refine ⟨?_, by simp [intOf]; omega⟩
      have fin : ∀ a0 a1 a2 a3, a0 = foldW (f · 0) (k + 1) → a1 = foldW (f · 1) (k + 1) → a2 = foldW (f · 2) (k + 1) → a3 = foldW (f · 3) (k + 1) →
          ∃ (k' : Nat), k' ≤ n ∧ Value.int .i64 ((k : Int) + 1) = .int .i64 k' ∧ Four (set4 w1 (w.heap.size + 1) a0 a1 a2 a3) w.heap.size 0 0 0 0 ∧ Four (set4 w1 (w.heap.size + 1) a0 a1 a2 a3) (w.heap.size + 1) (foldW (f · 0) k') (foldW (f · 1) k') (foldW (f · 2) k') (foldW (f · 3) k') ∧ w.heap.size + 2 ≤ (set4 w1 (w.heap.size + 1) a0 a1 a2 a3).heap.size ∧ Below w.heap.size w (set4 w1 (w.heap.size + 1) a0 a1 a2 a3) := by
        intro a0 a1 a2 a3 q0 q1 q2 q3
        refine ⟨k + 1, by omega, by go_num, HR1.out.kept (set4_heap _ _ _ _ _ _ _ (by omega)), ?_, by rw [set4_size]; omega, bl_set4 hbl1 (by omega) _ _ _ _⟩
        rw [← q0, ← q1, ← q2, ← q3]
        exact four_set HS.out _ _ _ _
      first
        | exact fin _ _ _ _ rfl rfl rfl rfl
        | ((repeat apply Exists.intro); exact ⟨fin _ _ _ _ rfl rfl rfl rfl, rfl⟩)
    · obtain rfl : k = n := by omega
      obtain ⟨⟨d0, d1, d2, d3⟩, e0, e1, e2, e3⟩ := hs
      obtain ⟨⟨r0, r1, r2, r3⟩, t0, t1, t2, t3⟩ := hr
      go_wp2
      exact bodyPost_ret (v := .agg #[.int .i64 (foldW (f · 0) k), .int .i64 (foldW (f · 1) k), .int .i64 (foldW (f · 2) k), .int .i64 (foldW (f · 3) k)]) (by simp [results, Tryz.results92, go_sem, *]) rfl ⟨rfl, bl_set (bl_set (bl_set (bl_set hbl (Nat.le_refl _) _) (Nat.le_refl _) _) (Nat.le_refl _) _) (Nat.le_refl _) _⟩
end Go.Proofs.YtjcmbnmejkhcjaaGreat
