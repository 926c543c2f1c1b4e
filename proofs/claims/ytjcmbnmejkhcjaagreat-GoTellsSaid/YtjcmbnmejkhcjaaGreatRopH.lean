/- A rope in memory among trees of pieces: Cut, Join. Condition: texts that are not too long. -/
import Derived.Test.YtjcmbnmejkhcjaaGreatRopG
import Derived.LaidEqlPtr
namespace Go.Proofs.YtjcmbnmejkhcjaaGreat
open Go.ChangeShapes Go.WideShapes Go.ChangeAt Go.RowKit
attribute [local go_sem ↓] Go.wp_at_zero Go.wp_at_succ
set_option maxRecDepth 100000
theorem Live.reserve {w0 : World} {S0 R : List Nat} {d g : Nat} {w : World} {ts : List T} (h : Live w0 S0 R d g w ts) (o : Obj) : Live w0 S0 (w.heap.size :: R) d g (w.alloc o) ts := by
  have hb : Below w.heap.size w (w.alloc o) := bl_alloc (bl_refl w) o
  obtain ⟨h1, _⟩ := live_bl h hb
  refine ⟨h1.dice, List.mem_cons_of_mem _ h.dR, List.mem_cons_of_mem _ h.gR, fun k hk => ?_, h1.own, h1.nd, fun k hk hm => ?_, h1.src, h1.chg⟩
  · rcases List.mem_cons.1 hk with rfl | hk
    · simp
    · exact Nat.lt_of_lt_of_le (h.hR k hk) hb.size
  · rcases List.mem_cons.1 hm with e | hm
    · have := live_lt h k hk; omega
    · exact h.off k hk hm
theorem RpIn.more {w0 : World} {S0 R : List Nat} {d g r : Nat} (h : RpIn w0 S0 R d g r) (o : Nat) : RpIn w0 S0 (o :: R) d g r := ⟨List.mem_cons_of_mem _ h.rR, h.rd, h.rg, h.src⟩
def CutPost (w0 : World) (S0 R : List Nat) (d g r : Nat) (ts : List T) (s : List UInt8) (k : Nat) (w : World) (e : Ending) (w' : World) : Prop :=
  ∃ (o : Nat) (a b : T), e = .returned (.tuple #[.pointer (some ⟨o, 0, none⟩), .int .i64 0]) ∧ w.heap.size ≤ o ∧ a.text = s.take k ∧ b.text = s.drop k ∧ Live w0 S0 (o :: R) d g w' (a :: b :: ts) ∧ RpC w' r d a ∧ RpC w' o d b ∧ Keep2 R d r w w'
theorem info_rope : (Tryz.prog.info? 62).map (fun i => (i.zero, i.size, i.bytes)) = some (some (.agg #[.pointer none, .pointer none]), 2, 16) := by kernel_rfl
def JoinPost (w0 : World) (S0 R : List Nat) (d g r o d2 : Nat) (ts : List T) (s : List UInt8) (w : World) (e : Ending) (w' : World) : Prop :=
  ∃ t : T, e = .returned (.int .i64 0) ∧ t.text = s ∧ Live w0 S0 R d g w' (t :: ts) ∧ RpC w' r d t ∧ RpC w' o d2 .nil ∧ (∀ k ∈ R, k ≠ d → k ≠ r → k ≠ o → w'.heap[k]? = w.heap[k]?)
theorem joined {w0 : World} {S0 R : List Nat} {d g r o d2 : Nat} {w w2 : World} {t u v : T} {ts : List T} {s : List UInt8} (hi : RpIn w0 S0 R d g r) (hj : RpIn w0 S0 R d g o) (hro : r ≠ o) (hv : v.text = s) (hl : Live w0 S0 R d g w2 (v :: ts)) (hk : Keeps R d w w2) (hc : RpC w2 r d t) (ho : RpC w2 o d2 u) :
    JoinPost w0 S0 R d g r o d2 ts s w (.returned (.int .i64 0)) ((w2.setCell ⟨r, 1, none⟩ (.pointer v.addr)).setCell ⟨o, 1, none⟩ (.pointer none)) := by
  refine ⟨v, rfl, hv, (hl.set hi.rR hi.rd hi.rg hi.src 1 _).set hj.rR hj.rd hj.rg hj.src 1 _, (Below.heap_setCell _ _ _ r hro).trans (rp_set hc v), ?_, fun q hq hn hr ho' => ?_⟩
  · exact rp_set (t := u) ((Below.heap_setCell w2 ⟨r, 1, none⟩ _ o (Ne.symm hro)).trans ho) .nil
  · rw [Below.heap_setCell _ ⟨o, 1, none⟩ _ q ho', Below.heap_setCell _ ⟨r, 1, none⟩ _ q hr]
    exact hk q hq hn
end Go.Proofs.YtjcmbnmejkhcjaaGreat
