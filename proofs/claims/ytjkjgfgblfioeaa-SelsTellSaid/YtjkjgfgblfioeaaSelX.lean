/- Contract: selections by numbers (layer 8's laws). Condition: at most 80 of them. -/
import Derived.Test.YtjkjgfgblfioeaaSelW
import Derived.Test.YtjkjgfgblfioeaaLow
import Derived.Deep.RegionHeld3
namespace Go.Proofs.Ytjkjgfgblfioeaa
open Go.ChangeShapes Go.WideShapes Go.ChangeAt Go.RowKit
open SpanM SelM
attribute [local go_sem ↓] Go.wp_at_zero Go.wp_at_succ
set_option maxRecDepth 100000
set_option linter.unusedVariables false
def low2 (s : Sp) : Sp := ((lowN s.1 61 : Nat), (lowN s.2 61 : Nat))
def SoInv (l : List Sp) (w : World) (m i : Value) (wr : World) : Prop :=
  ∃ k : Nat, i = .int .i64 k ∧ k ≤ l.length ∧ Hid (wr.ownsRow w.heap.size 38 2 m k (flat ((l.take k).map low2))) ∧ Hid (Below w.heap.size w wr)
set_option maxHeartbeats 4000000 in
theorem some_any (v : Value) (l : List Sp) (w : World) (h : SpAt w v l) (hl : l.length ≤ 80) :
    Calls Try.prog 12 #[v] w fun e w' => ∃ v', e = .returned v' ∧ Below w.heap.size w w' ∧ w'.ownsRow w.heap.size 38 2 v' l.length (flat (l.map low2)) := by
  obtain ⟨i0, hi0, hz0', hz1, hz2⟩ := info_parts info_sl
  obtain ⟨vA, vc, rfl⟩ := spat_len h
  have H := hide h
  clear h
  go_enter Try.func12, Try.ntmps12
  go_wp2
  go_loopw [3, 4] (fun m i wr => SoInv l w m i wr) (fun _ i _ => l.length - (intOf i).toNat)
  case atStart => exact ⟨0, rfl, Nat.zero_le _, hide ⟨rfl, .inl ⟨rfl, rfl⟩⟩, hide (bl_refl w)⟩
  case round =>
    obtain ⟨k, rfl, hk, HV, HBL⟩ := hrel
    obtain ⟨aV, cV, rfl⟩ := own_slice HV.out
    by_cases hlt : k < l.length
    · obtain ⟨b1, o1, c1', hv1, hc1, hm1, hlb1, hcell1⟩ := spat_some H.out (by omega)
      injection hv1 with hv1 _ hv1c
      subst hv1 hv1c
      unfold maxLen at hm1
      have x1 := cell_later HBL.out (hcell1 k hlt).1
      have x2 := cell_later HBL.out (hcell1 k hlt).2
      have ag : (Value.slice aV k cV).ownBlock ≠ some b1 := fun h => by have := (World.ownsRow.lt HV.out _ h).1; omega
      have hsu : flat ((l.take k).map low2) ++ [Value.int .i64 (low2 l[k]).1, .int .i64 (low2 l[k]).2] = flat ((l.take (k + 1)).map low2) := by
        rw [List.take_succ_eq_append_getElem hlt, List.map_append, flat_app]; rfl
      clear hcell1 hm1
      generalize l[k] = s at *
      obtain ⟨s1, s2⟩ := s
      have hl1 : ∀ W, Calls Try.prog 14 #[.int .i64 s1, .int .i64 61] W fun e w' => e = .returned (.int .i64 (low2 (s1, s2)).1) ∧ W = w' := fun W => low_any s1 61 W (by omega) (by omega)
      have hl2 : ∀ W, Calls Try.prog 14 #[.int .i64 s2, .int .i64 61] W fun e w' => e = .returned (.int .i64 (low2 (s1, s2)).2) ∧ W = w' := fun W => low_any s2 61 W (by omega) (by omega)
      generalize (low2 (s1, s2)).1 = y1 at *
      generalize (low2 (s1, s2)).2 = y2 at *
      have HL1 := hide hl1
      have HL2 := hide hl2
      have HSU := hide hsu
      have gl : decide (k < l.length) = true := decide_eq_true hlt
      have hws := HBL.out.size
      have HKEEP := hide (fun W (hh : Below wr.heap.size wr W) => And.intro (cell_later hh x1) (cell_later hh x2))
      clear hl1 hl2 hsu
      go_wp2
      go_region_held3 (fun W => W.cell? ⟨b1, o1 + k * 2, none⟩ = some (.int .i64 s1) ∧ W.cell? ⟨b1, o1 + k * 2 + 1, none⟩ = some (.int .i64 s2))
        (first
          | go_keep
          | (refine HKEEP.out _ ?_; first | assumption | exact bl_refl _ | exact bl_drew (bl_refl _) | exact bl_alloc (bl_refl _) _ | exact bl_drew (bl_alloc (bl_refl _) _) | exact bl_alloc (bl_drew (bl_refl _)) _)
          | (go_split_ands
             refine ⟨?_, ?_⟩
             · (rw [hg8.cell_far _ (by simp; omega) (Ne.symm ag)]; assumption)
             · (rw [hg8.cell_far _ (by simp; omega) (Ne.symm ag)]; assumption)))
        (first
          | (go_at_call 14
             first
               | ((with_reducible refine (HL1.out _).mono ?_); rintro e wa ⟨rfl, hwa⟩; subst hwa)
               | ((with_reducible refine (HL2.out _).mono ?_); rintro e wa ⟨rfl, hwa⟩; subst hwa))
          | (refine step_src _ (by rfl) (.tmp 11) (.tmp 25) 22 (by rfl) w.heap.size 38 i0 (.agg #[.int .i64 0, .int .i64 0]) 2 16 Try.underlying22 hi0 hz0' hz1 hz2 rfl (by decide) (.slice aV k cV) k (flat ((l.take k).map low2)) (by rfl) (own_below HV.out (by repeat (first | exact bl_refl _ | refine bl_drew ?_ | refine bl_alloc ?_ _))) (some ⟨_, 0, none⟩) 1 1 [.int .i64 y1, .int .i64 y2] (by rfl) (src_block (cs := #[.int .i64 y1, .int .i64 y2]) (by (try refine heap_drew ?_); first | exact heap_new (by simp) | exact heap_old (heap_new (by simp))) rfl) (by simp [Value.oneCell']) (by omega) (by decide) (by simp; omega) ?_; intro v8 w8 hv8 hg8; have B8 := bl_grown (a := w) (bl_trans HBL.out (by repeat (first | exact bl_refl _ | refine bl_drew ?_ | refine bl_alloc ?_ _))) hg8 (fun j hj => (World.ownsRow.lt HV.out j hj).1))
          | fail)
      all_goals
        rw [HSU.out] at hv8
        have HV8 := hide hv8
        have HB8 := hide B8
        clear hv8 hg8 B8
        go_wp2
        refine ⟨?_, by first | (simp [intOf]; done) | (simp [intOf]; omega)⟩
        exact ⟨k + 1, by go_num, by omega, HV8, HB8⟩
    · obtain rfl : k = l.length := by omega
      have gl : decide (l.length < l.length) = false := by simp
      go_wp2
      go_ret
      refine ⟨_, rfl, HBL.out, ?_⟩
      have := HV.out
      rwa [List.take_of_length_le (Nat.le_refl _)] at this
end Go.Proofs.Ytjkjgfgblfioeaa
