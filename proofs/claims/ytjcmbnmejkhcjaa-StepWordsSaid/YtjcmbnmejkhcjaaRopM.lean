/- A rope's Upto. Condition: a text that is not too long. -/
import Derived.Test.YtjcmbnmejkhcjaaTreeO
import Derived.Test.YtjcmbnmejkhcjaaRopY
namespace Go.Proofs.Ytjcmbnmejkhcjaa
open Go.ChangeShapes Go.WideShapes Go.ChangeAt Go.RowKit
attribute [local go_sem ↓] Go.wp_at_zero Go.wp_at_succ
set_option maxRecDepth 100000
theorem rst_upto {w0 w : World} {D : List (Nat × Nat)} {rs : List Rp} (h : Rst w0 w D rs) {r d : Nat} {t : T} (hq : (r, d, t) ∈ rs) {x : ByteArray} (hx : Tx t x) (way n : Int) (hn : n ≤ 9223372036854775807) (hs : x.size ≤ 1000000) :
    Calls Try.prog 63 #[.pointer (some ⟨r, 0, none⟩), .int .i64 way, .int .i64 n] w fun e w' => e = .returned (.int .i64 (upto way n x.data.toList)) ∧ Below w.heap.size w w' := by
  have hlen := hx.len
  have hc := h.rp _ hq
  have hat := (h.at' hq).1
  have HU := hide (upto_any ⟨#[]⟩ way n w (by decide) hn)
  by_cases hb : n < 0 ∨ way < 0 ∨ 3 < way
  · have e0 : upto way n (⟨#[]⟩ : ByteArray).data.toList = -1 := by unfold upto; rw [if_pos hb]
    have e1 : upto way n x.data.toList = -1 := by unfold upto; rw [if_pos hb]
    rw [e1]
    rw [e0] at HU
    clear e0 e1 hb hc hat hlen hx h hq
    go_enter Try.func63, Try.ntmps63
    go_wp2_with fail
    refine HU.out.mono ?_
    rintro e w1 ⟨rfl, hb1⟩
    go_wp2
    go_ret
    exact ⟨rfl, hb1⟩
  · have e0 : upto way n (⟨#[]⟩ : ByteArray).data.toList = 0 := by unfold upto; rw [if_neg hb]; rfl
    have e1 : upto way n x.data.toList = (upL way t.text n : Nat) := by unfold upto; rw [if_neg hb, hx]
    rw [e1]
    rw [e0] at HU
    have HT := hide (fun W (hb2 : Below w.heap.size w W) => tupto_any way (by omega) t n W (hat.later t hb2) (by rw [hlen]; exact hs) (by omega) hn)
    obtain ⟨c0, c1, _, _⟩ := rp_cells hc
    have hrw := rp_lt hc
    obtain ⟨u, hu⟩ : ∃ u, upL way t.text n = u := ⟨_, rfl⟩
    rw [hu] at HT ⊢
    clear hu e0 e1 hb hc hat hlen hx h hq
    generalize t.addr = ta at *
    go_enter Try.func63, Try.ntmps63
    go_wp2_with fail
    refine HU.out.mono ?_
    rintro e w1 ⟨rfl, hb1⟩
    have c1 := cell_later hb1 c1
    go_wp2_with fail
    refine (HT.out _ hb1).mono ?_
    rintro e w2 ⟨rfl, hb2⟩
    go_wp2
    go_ret
    exact ⟨rfl, bl_trans hb1 hb2⟩
end Go.Proofs.Ytjcmbnmejkhcjaa
