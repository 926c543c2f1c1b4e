/- Ropes at the laws: dice and ropes of what comes in; a stretch's code. -/
import Derived.Test.YtjcmbnmejkhcjaaRopX
import Derived.Test.YtjcmbnmejkhcjaaArgs
namespace Go.Proofs.Ytjcmbnmejkhcjaa
open Go.ChangeShapes Go.WideShapes Go.ChangeAt Go.RowKit
attribute [local go_sem ↓] Go.wp_at_zero Go.wp_at_succ
set_option maxRecDepth 100000
theorem sjoin_zero (a : Option Addr) (c : Nat) (w : World) : Calls Try.prog 43 #[.slice a 0 c, .string ⟨#[]⟩] w fun e w' => e = .returned (.string ⟨#[]⟩) ∧ w = w' := by
  go_enter Try.func43, Try.ntmps43
  go_wp2
  go_ret
  exact ⟨rfl, rfl⟩
set_option maxHeartbeats 4000000 in
theorem new_zero {w0 w : World} {D : List (Nat × Nat)} {d g : Nat} {rs : List Rp} (h : Rst w0 w D rs) (hd : (d, g) ∈ D) (a : Option Addr) (c : Nat) :
    Calls Try.prog 20 #[.pointer (some ⟨d, 0, none⟩), .slice a 0 c] w (NewsPost w0 D d rs ⟨#[]⟩) := by
  have hLA := (h.live hd).reserve (.cells #[.pointer (some ⟨d, 0, none⟩), .pointer none] 80)
  have hoA : RpC (w.alloc (.cells #[.pointer (some ⟨d, 0, none⟩), .pointer none] 80)) w.heap.size d .nil := heap_alloc_new w _
  have hba : Below w.heap.size w (w.alloc (.cells #[.pointer (some ⟨d, 0, none⟩), .pointer none] 80)) := bl_alloc (bl_refl w) _
  have hsw := h.bel.size
  have hdw := (h.rsv d (rr_d hd)).2
  have hgw := (h.rsv g (rr_g hd)).2
  obtain ⟨c0, _, _, _⟩ := rp_cells hoA
  have HB := hide (build_live hLA w.heap.size List.mem_cons_self (by omega) c0 ⟨#[]⟩ (by decide))
  have HO := hide hoA
  have H := hide h
  have HBA := hide hba
  clear h hLA hoA hba
  go_enter Try.func20, Try.ntmps20
  go_wp2
  go_loopw [6, 14] (fun n i wr => n = .int .i64 0 ∧ i = .int .i64 0 ∧ w = wr) (fun _ _ _ => 0)
  case atStart => exact ⟨rfl, rfl, rfl⟩
  case round =>
    obtain ⟨rfl, rfl, rfl⟩ := hrel
    go_wp2_with fail
    refine (sjoin_zero _ _ _).mono ?_
    rintro e w1 ⟨rfl, hw1⟩
    subst hw1
    go_wp2_with fail
    refine HB.out.mono ?_
    rintro e w2 ⟨t, rfl, htx, hl2, hk2⟩
    have ho2 := rp_keep HO.out hk2 List.mem_cons_self (show w.heap.size ≠ d by omega)
    obtain ⟨_, e1, _, f1⟩ := rp_cells ho2
    have hl3 := hl2.set (r := w.heap.size) List.mem_cons_self (by omega) (by omega) (.inr hsw) 1 (.pointer t.addr)
    have hk : ∀ k ∈ RR D rs, k ≠ d → (w2.setCell ⟨w.heap.size, 1, none⟩ (.pointer t.addr)).heap[k]? = w.heap[k]? := fun q hq hn => by
      have hqw := (H.out.rsv q hq).2
      rw [Below.heap_setCell _ ⟨w.heap.size, 1, none⟩ _ q (by simp only; omega), hk2 q (List.mem_cons_of_mem _ hq) hn]
      exact HBA.out.block q hqw
    have hfin : NewsPost w0 D d rs ⟨#[]⟩ (.returned (.tuple #[.pointer (some ⟨w.heap.size, 0, none⟩), .int .i64 0])) (w2.setCell ⟨w.heap.size, 1, none⟩ (.pointer t.addr)) :=
      ⟨_, t, rfl, fun q hq e => by have := (H.out.rsv _ (rr_r hq)).2; omega, htx, rst_more (us := rs) H.out hd (Nat.le_refl _) rfl hl3 (rp_set (t := .nil) ho2 t) (fun q hq => (hk q.1 (rr_r hq) (H.out.rd q hq _ hd).1).trans (H.out.rp q hq)) (fun p hp h1 h2 => ⟨hk _ (rr_d hp) h1, hk _ (rr_g hp) h2⟩)⟩
    have HF := hide hfin
    clear hfin hl2 hl3 htx ho2 hk2 HB hk
    go_wp2
    go_ret2
    exact HF.out
theorem rst_news {w0 w : World} {D : List (Nat × Nat)} {d g : Nat} {rs : List Rp} (h : Rst w0 w D rs) (hd : (d, g) ∈ D) {a : Option Addr} {len cap : Nat} {z : List ByteArray} (hz : IsStrs w a len cap z) (hn : len ≤ 1000) (x : ByteArray) (hx : cat (z.take len) = x.data.toList) (hlen : x.size ≤ 65536) :
    Calls Try.prog 20 #[.pointer (some ⟨d, 0, none⟩), .slice a len cap] w (NewsPost w0 D d rs x) := by
  rcases Nat.eq_zero_or_pos len with h0 | h0
  · subst h0
    have hx0 : x = ⟨#[]⟩ := str_ext (by rw [← hx]; simp [cat])
    subst hx0
    exact new_zero h hd a cap
  · obtain ⟨b, off, rfl, h1, h2, h3, h4⟩ := strs_cell hz h0
    have hl := strs_len hz
    have hzl : (z.take len).length = len := by simp; omega
    have hcells : ∀ (j : Nat) y, (z.take len)[j]? = some y → w.cell? ⟨b, off + j, none⟩ = some (.string y) := fun j y hy => by
      have hj : j < len := by have := (List.getElem?_eq_some_iff.1 hy).1; omega
      have := h4 j (by omega)
      rw [this]
      rw [List.getElem?_take, if_pos hj] at hy
      simp [List.getD, hy]
    have hbw : b < w.heap.size := World.block_lt_of_cell? w _ (h4 0 (by omega))
    have := rst_new h hd b off cap (z.take len) hbw hcells (by omega) (by omega) x hx hlen
    rw [hzl] at this
    exact this
theorem rst_dnews {w0 w : World} {D : List (Nat × Nat)} {rs : List Rp} (h : Rst w0 w D rs) {a : Option Addr} {len cap : Nat} {z : List Int} (hz : IsInts .u32 w a len cap z) (hn : len ≤ 1000) :
    Calls Try.prog 21 #[.slice a len cap] w fun e w' => ∃ b g, e = .returned (.pointer (some ⟨b, 0, none⟩)) ∧ Rst w0 w' ((b, g) :: D) rs ∧ Below w.heap.size w w' := by
  rcases hz with ⟨rfl, rfl, rfl, _⟩ | ⟨x, rfl, hl, hm, hzl, hc, hw⟩
  · refine (dnew_nil w).mono ?_
    rintro e w' ⟨b, g, rfl, hb0, hg0, hb, hg, hd, hbel⟩
    exact ⟨b, g, rfl, h.dice hbel hd hb0 hg0 hb hg, hbel⟩
  · refine (dnew_some w x len cap (z.take len) (by simp; omega) (by omega) (fun y hy => ?_) (fun j hj => ?_)).mono ?_
    · have h9 := hw y (List.mem_of_mem_take hy)
      simp [Lit.wf, IntKind.min, IntKind.max, IntKind.signed, IntKind.bits] at h9
      omega
    · rw [hc j (by omega)]
      simp [List.getD, hj]
    · rintro e w' ⟨b, g, rfl, hb0, hg0, hb, hg, hd, hbel⟩
      exact ⟨b, g, rfl, h.dice hbel hd hb0 hg0 hb hg, hbel⟩
end Go.Proofs.Ytjcmbnmejkhcjaa
