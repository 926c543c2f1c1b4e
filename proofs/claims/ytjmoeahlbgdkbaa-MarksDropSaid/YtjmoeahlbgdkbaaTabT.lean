/- Contracts of package marks at a table: a copy of its row, Twin. Condition: few records. -/
import Derived.Test.YtjmoeahlbgdkbaaTabG
import Derived.Lib.LazyBuf
import Derived.Deep.RegionWith
namespace Go.Proofs.Ytjmoeahlbgdkbaa
open Go.ChangeShapes Go.WideShapes Go.ChangeAt Go.RowKit
attribute [local go_sem ↓] Go.wp_at_zero Go.wp_at_succ
set_option maxRecDepth 100000
set_option maxHeartbeats 1000000 in
theorem cloneM_any (base tb : Nat) (last : Int) (v : Value) (l : List Mk) (w : World) (h : Tab w base tb last v l) (hl : l.length ≤ 1000) :
    Calls Try.prog 46 #[v] w fun e w' => ∃ v', e = .returned v' ∧ Below w.heap.size w w' ∧ w'.ownsRow w.heap.size 82 6 v' l.length (flatM l) := by
  obtain ⟨i0, hi0, hz0', hz1, hz2⟩ := info_parts info_rec
  have hsn := fun (W : World) (a : Option Addr) (n c : Nat) => Lib.run_eql_slice_nil (P := Try.prog) W 73 82 a n c 0 0 Try.underlying73
  rcases h.form with ⟨rfl, rfl⟩ | ⟨g, c, rfl, hg1, hg2, hg3, hg4, hg5⟩
  · clear h
    go_enter Try.func46, Try.ntmps46
    go_wp2
    go_ret
    exact ⟨_, rfl, bl_refl w, ⟨rfl, .inl ⟨rfl, rfl⟩⟩⟩
  · have hm0 := World.ownsRow_made (base := w.heap.size) (e := 82) (size := 6) w #[] 0 (Nat.le_refl _) (by simp [maxLen]) (by simp)
    have hsrc := hide (src_below (own_src h.own) (bl_alloc (bl_refl w) (.cells #[] 82)))
    clear h
    go_enter Try.func46, Try.ntmps46
    go_wp2_with (at_builtin; (refine wpList_src _ rfl _ _ 73 rfl w.heap.size 82 i0 (.agg #[.int .i64 0, .int .i64 0, .int .i64 0, .bool false, .bool false, .int .i64 0]) 6 40 Try.underlying73 hi0 hz0' hz1 hz2 rfl (by decide) _ 0 [] rfl hm0 (some ⟨g, 0, none⟩) l.length c (flatM l) rfl hsrc.out (flatM_one l) (by omega) (by decide) (by simp) ?_); intro v' w4 hv4 hg4)
    go_ret
    rw [Nat.zero_add, List.nil_append] at hv4
    exact ⟨_, rfl, bl_own (bl_alloc (bl_refl w) _) hm0 hg4 (Nat.le_refl _), hv4⟩
set_option maxHeartbeats 4000000 in
theorem twin_any (base tb : Nat) (last : Int) (v : Value) (l : List Mk) (w : World) (h : Tab w base tb last v l) (hl : l.length ≤ 1000) :
    Calls Try.prog 25 #[.pointer (some ⟨tb, 0, none⟩)] w fun e w' => (∃ tb' v', e = .returned (.pointer (some ⟨tb', 0, none⟩)) ∧ Tab w' w.heap.size tb' last v' l) ∧ Below w.heap.size w w' := by
  have H := hide h
  obtain ⟨c0, c1, _, _⟩ := cells2 h.at0
  have hlt := h.lt
  have HKEEP := hide (show ∀ W, Below w.heap.size w W → (fun w' => Below w.heap.size w w' ∧ w'.cell? ⟨tb, 0, none⟩ = some (.int .i64 last) ∧ w'.cell? ⟨tb, 1, none⟩ = some v) W from fun W h => ⟨h, cell_later h c0, cell_later h c1⟩)
  clear h
  go_enter Try.func25, Try.ntmps25
  go_wp2
  go_region_held3 (fun w' => Below w.heap.size w w' ∧ w'.cell? ⟨tb, 0, none⟩ = some (.int .i64 last) ∧ w'.cell? ⟨tb, 1, none⟩ = some v)
    (first
      | (refine HKEEP.out _ ?_
         (try go_split_ands)
         repeat (first | assumption | exact bl_refl _ | refine bl_drew ?_ | refine bl_alloc ?_ _)))
    (first
      | (go_at_call 46; go_split_ands; refine (cloneM_any base tb last v l _ (H.out.later (by assumption)) hl).mono ?_; rintro e w1 ⟨v1, rfl, hb1, ho1⟩; obtain ⟨aZ, cZ, rfl⟩ := own_slice ho1; have hbz := bl_trans (by assumption : Below w.heap.size w _) hb1))
  all_goals
    have hoff : (Value.slice aZ l.length cZ).ownBlock ≠ some w1.heap.size := fun e => by have := (ho1.lt _ e).2; omega
    have HT := hide (show Tab (w1.alloc (.cells #[.int .i64 last, .slice aZ l.length cZ] 75)) w.heap.size w1.heap.size last (.slice aZ l.length cZ) l from ⟨hbz.size, heap_alloc_new w1 _, own_below ho1 (bl_alloc (bl_refl w1) _), hoff⟩)
    have hbf := bl_alloc hbz (.cells #[.int .i64 last, .slice aZ l.length cZ] 75)
    clear ho1 hoff
    go_wp2
    go_ret
    exact ⟨⟨_, _, rfl, HT.out⟩, hbf⟩
end Go.Proofs.Ytjmoeahlbgdkbaa
