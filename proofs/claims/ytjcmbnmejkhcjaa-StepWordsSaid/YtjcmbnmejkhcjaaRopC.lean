/- A rope's Count. Condition: a text that is not too long. -/
import Derived.Test.YtjcmbnmejkhcjaaTreeK
import Derived.Test.YtjcmbnmejkhcjaaRopX
namespace Go.Proofs.Ytjcmbnmejkhcjaa
open Go.ChangeShapes Go.WideShapes Go.ChangeAt Go.RowKit
attribute [local go_sem ↓] Go.wp_at_zero Go.wp_at_succ
set_option maxRecDepth 100000
set_option maxHeartbeats 2000000 in
theorem count_r {w : World} {r d : Nat} {t : T} (hc : RpC w r d t) (ht : t.At w) (k : Nat) (hk : k ≤ t.text.length) (hlen : t.text.length ≤ 1000000) :
    Calls Try.prog 34 #[.pointer (some ⟨r, 0, none⟩), .int .i64 k] w fun e w' => ∃ v0 v1 v2 v3 : Int, talOf (t.text.take k) = .agg #[.int .i64 v0, .int .i64 v1, .int .i64 v2, .int .i64 v3] ∧ e = .returned (.tuple #[talOf (t.text.take k), .int .i64 0]) ∧ Below w.heap.size w w' := by
  have hm : mayR 0 (k : Int) (t.text.length : Int) = 0 := by unfold mayR; rw [if_neg (by omega)]
  have HM := hide (fun W (hb : Below w.heap.size w W) => may_r (rp_bl hc hb) (ht.later t hb) 0 k)
  rw [hm] at HM
  have HC := hide (fun W (hb : Below w.heap.size w W) => tcount_any t k W (ht.later t hb) hlen hk)
  obtain ⟨c0, c1, _, _⟩ := rp_cells hc
  have hrw := rp_lt hc
  obtain ⟨S, hS⟩ : ∃ S, t.text.take k = S := ⟨_, rfl⟩
  rw [hS] at HC ⊢
  clear hS hc ht hm hk hlen
  generalize t.addr = ta at *
  have hba := bl_alloc (bl_refl w) (.cells #[.int .i64 0, .int .i64 0, .int .i64 0, .int .i64 0] 66)
  go_enter Try.func34, Try.ntmps34
  go_wp2_with fail
  refine (HM.out _ (bl_alloc (bl_refl _) _)).mono ?_
  rintro e w1 ⟨rfl, hw1⟩
  subst hw1
  go_wp2_with fail
  refine (HC.out _ (bl_alloc (bl_refl _) _)).mono ?_
  unfold talOf
  rintro e w2 ⟨rfl, hb2⟩
  have hres : ResAt w2 w.heap.size := ResAt.bl ⟨0, 0, 0, 0, heap_alloc_new w _⟩ hb2
  have hbb := bl_trans hba hb2
  obtain ⟨⟨q0, q1, q2, q3, s0, s1, s2, s3⟩, f0, f1, f2, f3⟩ := res_top hres
  clear hres HM HC
  go_wp2
  refine bodyPost_ret (v := .tuple #[talOf S, .int .i64 0]) (by simp [results, Try.results34, go_sem, talOf, *]) rfl ⟨_, _, _, _, rfl, rfl, ?_⟩
  exact bl_set (bl_set (bl_set (bl_set hbb (Nat.le_refl _) _) (Nat.le_refl _) _) (Nat.le_refl _) _) (Nat.le_refl _) _
end Go.Proofs.Ytjcmbnmejkhcjaa
