/- A rope in memory among trees of pieces: Cut, Join. Condition: texts that are not too long. -/
import Derived.Test.YtidfpnedbcaicaaRopG
import Derived.LaidEqlPtr
namespace Go.Proofs.Ytidfpnedbcaicaa
open Go.ChangeShapes Go.WideShapes Go.ChangeAt Go.RowKit
attribute [local go_sem ↓] Go.wp_at_zero Go.wp_at_succ
set_option maxRecDepth 100000
theorem Live.reserve {w0 : World} {S0 R : List Nat} {d g : Nat} {w : World} {ts : List T} (h : Live w0 S0 R d g w ts) (o : Obj) : Live w0 S0 (w.heap.size :: R) d g (w.alloc o) ts := by
  have hb : Below w.heap.size w (w.alloc o) := bl_alloc (bl_refl w) o
  obtain ⟨h1, _⟩ := live_bl h hb
  refine ⟨h1.dice, List.mem_cons_of_mem _ h.dR, List.mem_cons_of_mem _ h.gR, fun k hk => ?_, h1.own, h1.nd, fun k hk hm => ?_, h1.src, h1.chg⟩
  · rcases List.mem_cons.1 hk with rfl | hk
    · simp
    · exact Nat.lt_of_lt_of_le (h.hR k hk) hb.size
  · rcases List.mem_cons.1 hm with e | hm
    · have := live_lt h k hk; omega
    · exact h.off k hk hm
theorem RpIn.more {w0 : World} {S0 R : List Nat} {d g r : Nat} (h : RpIn w0 S0 R d g r) (o : Nat) : RpIn w0 S0 (o :: R) d g r := ⟨List.mem_cons_of_mem _ h.rR, h.rd, h.rg, h.src⟩
def CutPost (w0 : World) (S0 R : List Nat) (d g r : Nat) (ts : List T) (s : List UInt8) (k : Nat) (w : World) (e : Ending) (w' : World) : Prop :=
  ∃ (o : Nat) (a b : T), e = .returned (.tuple #[.pointer (some ⟨o, 0, none⟩), .int .i64 0]) ∧ w.heap.size ≤ o ∧ a.text = s.take k ∧ b.text = s.drop k ∧ Live w0 S0 (o :: R) d g w' (a :: b :: ts) ∧ RpC w' r d a ∧ RpC w' o d b ∧ Keep2 R d r w w'
set_option maxHeartbeats 4000000 in
theorem cut_r {w0 : World} {S0 R : List Nat} {d g r : Nat} {w : World} {t : T} {ts : List T} (h : Live w0 S0 R d g w (t :: ts)) (hc : RpC w r d t) (hi : RpIn w0 S0 R d g r) (k : Nat) (hk : k ≤ t.text.length) (hlen : t.text.length ≤ 65536) :
    Calls Try.prog 32 #[.pointer (some ⟨r, 0, none⟩), .int .i64 k] w (CutPost w0 S0 R d g r ts t.text k w) := by
  have ht := (h.own t (by simp)).1
  have HL := hide (len_r hc ht)
  have HM := hide (may_r hc ht k t.text.length)
  rw [show mayR k t.text.length t.text.length = 0 from by unfold mayR; rw [if_neg (by omega)]] at HM
  obtain ⟨c0, c1, _, _⟩ := rp_cells hc
  have hrw := rp_lt hc
  have hba : Below w.heap.size w (w.alloc (.cells #[.pointer (some ⟨d, 0, none⟩), .pointer none] 74)) := bl_alloc (bl_refl w) _
  have hcA := rp_bl hc hba
  obtain ⟨d0, d1, _, _⟩ := rp_cells hcA
  have hLA := h.reserve (.cells #[.pointer (some ⟨d, 0, none⟩), .pointer none] 74)
  have HD := hide (divide_live hLA r (hi.more _).rR hi.rd d0 (by omega) k hk)
  have hoA : RpC (w.alloc (.cells #[.pointer (some ⟨d, 0, none⟩), .pointer none] 74)) w.heap.size d .nil := heap_alloc_new w _
  have HCA := hide hcA
  have HOA := hide hoA
  have HBA := hide hba
  have hne : w.heap.size ≠ r := by omega
  have hdw := h.hR d h.dR
  have hgw := h.hR g h.gR
  have hR := hide h.hR
  have hch := h.chg.size
  obtain ⟨n, hn⟩ : ∃ n, t.text.length = n := ⟨_, rfl⟩
  rw [hn] at HL HM hk hlen
  clear h ht hn hc hLA hcA hoA hba
  generalize t.addr = ta at *
  go_enter Try.func32, Try.ntmps32
  go_wp2_with fail
  refine HL.out.mono ?_
  rintro e w1 ⟨rfl, rfl⟩
  go_wp2_with fail
  refine HM.out.mono ?_
  rintro e w1 ⟨rfl, rfl⟩
  go_wp2_with fail
  refine HD.out.mono ?_
  rintro e w2 ⟨a, b, rfl, hta, htb, hl2, hk2⟩
  have hc2 := rp_keep HCA.out hk2 (List.mem_cons_of_mem _ hi.rR) hi.rd
  have ho2 := rp_keep HOA.out hk2 List.mem_cons_self (show w.heap.size ≠ d by omega)
  obtain ⟨_, e1, _, f1⟩ := rp_cells hc2
  obtain ⟨_, e3, _, f3⟩ := rp_cells ho2
  have hl3 := (hl2.set (hi.more w.heap.size).rR hi.rd hi.rg hi.src 1 (.pointer a.addr)).set (r := w.heap.size) List.mem_cons_self (by omega) (by omega) (.inr hch) 1 (.pointer b.addr)
  have hc3 : RpC ((w2.setCell ⟨r, 1, none⟩ (.pointer a.addr)).setCell ⟨w.heap.size, 1, none⟩ (.pointer b.addr)) r d a := (Below.heap_setCell _ _ _ r (Ne.symm hne)).trans (rp_set hc2 a)
  have ho3 : RpC ((w2.setCell ⟨r, 1, none⟩ (.pointer a.addr)).setCell ⟨w.heap.size, 1, none⟩ (.pointer b.addr)) w.heap.size d b := rp_set (t := .nil) ((Below.heap_setCell w2 ⟨r, 1, none⟩ _ w.heap.size hne).trans ho2) b
  have hkk : Keep2 R d r w ((w2.setCell ⟨r, 1, none⟩ (.pointer a.addr)).setCell ⟨w.heap.size, 1, none⟩ (.pointer b.addr)) := fun q hq hn hr => by
    have hqw := hR.out q hq
    rw [Below.heap_setCell _ ⟨w.heap.size, 1, none⟩ _ q (by simp only; omega), Below.heap_setCell _ ⟨r, 1, none⟩ _ q hr, hk2 q (List.mem_cons_of_mem _ hq) hn]
    exact HBA.out.block q hqw
  have hfin : CutPost w0 S0 R d g r ts t.text k w (.returned (.tuple #[.pointer (some ⟨w.heap.size, 0, none⟩), .int .i64 0])) ((w2.setCell ⟨r, 1, none⟩ (.pointer a.addr)).setCell ⟨w.heap.size, 1, none⟩ (.pointer b.addr)) :=
    ⟨_, a, b, rfl, Nat.le_refl _, hta, htb, hl3, hc3, ho3, hkk⟩
  have HF := hide hfin
  clear hfin hl2 hl3 hc3 ho3 hkk hta htb HD hk2 hc2 ho2
  go_wp2
  go_ret2
  exact HF.out
theorem cut_no {w : World} {r d : Nat} {t : T} (hc : RpC w r d t) (ht : t.At w) (k : Int) (hx : k < 0 ∨ (t.text.length : Int) < k) :
    Calls Try.prog 32 #[.pointer (some ⟨r, 0, none⟩), .int .i64 k] w fun e w' => e = .returned (.tuple #[.pointer none, .int .i64 3]) ∧ w = w' := by
  have HL := hide (len_r hc ht)
  have HM := hide (may_r hc ht k t.text.length)
  rw [show mayR k t.text.length t.text.length = 3 from by unfold mayR; rw [if_pos (by omega)]] at HM
  clear hc ht hx
  generalize t.text.length = n at *
  go_enter Try.func32, Try.ntmps32
  go_wp2_with fail
  refine HL.out.mono ?_
  rintro e w1 ⟨rfl, rfl⟩
  go_wp2_with fail
  refine HM.out.mono ?_
  rintro e w1 ⟨rfl, rfl⟩
  go_wp2
  go_ret2
  exact ⟨rfl, rfl⟩
theorem info_rope : (Try.prog.info? 74).map (fun i => (i.zero, i.size, i.bytes)) = some (some (.agg #[.pointer none, .pointer none]), 2, 16) := by kernel_rfl
def JoinPost (w0 : World) (S0 R : List Nat) (d g r o d2 : Nat) (ts : List T) (s : List UInt8) (w : World) (e : Ending) (w' : World) : Prop :=
  ∃ t : T, e = .returned (.int .i64 0) ∧ t.text = s ∧ Live w0 S0 R d g w' (t :: ts) ∧ RpC w' r d t ∧ RpC w' o d2 .nil ∧ (∀ k ∈ R, k ≠ d → k ≠ r → k ≠ o → w'.heap[k]? = w.heap[k]?)
theorem joined {w0 : World} {S0 R : List Nat} {d g r o d2 : Nat} {w w2 : World} {t u v : T} {ts : List T} {s : List UInt8} (hi : RpIn w0 S0 R d g r) (hj : RpIn w0 S0 R d g o) (hro : r ≠ o) (hv : v.text = s) (hl : Live w0 S0 R d g w2 (v :: ts)) (hk : Keeps R d w w2) (hc : RpC w2 r d t) (ho : RpC w2 o d2 u) :
    JoinPost w0 S0 R d g r o d2 ts s w (.returned (.int .i64 0)) ((w2.setCell ⟨r, 1, none⟩ (.pointer v.addr)).setCell ⟨o, 1, none⟩ (.pointer none)) := by
  refine ⟨v, rfl, hv, (hl.set hi.rR hi.rd hi.rg hi.src 1 _).set hj.rR hj.rd hj.rg hj.src 1 _, (Below.heap_setCell _ _ _ r hro).trans (rp_set hc v), ?_, fun q hq hn hr ho' => ?_⟩
  · exact rp_set (t := u) ((Below.heap_setCell w2 ⟨r, 1, none⟩ _ o (Ne.symm hro)).trans ho) .nil
  · rw [Below.heap_setCell _ ⟨o, 1, none⟩ _ q ho', Below.heap_setCell _ ⟨r, 1, none⟩ _ q hr]
    exact hk q hq hn
set_option maxHeartbeats 8000000 in
theorem join_r {w0 : World} {S0 R : List Nat} {d g r o d2 : Nat} {w : World} {t u : T} {ts : List T} (h : Live w0 S0 R d g w (t :: u :: ts)) (hc : RpC w r d t) (ho : RpC w o d2 u) (hi : RpIn w0 S0 R d g r) (hj : RpIn w0 S0 R d g o) (hro : r ≠ o) (hlen : t.text.length + u.text.length ≤ 65536) :
    Calls Try.prog 31 #[.pointer (some ⟨r, 0, none⟩), .pointer (some ⟨o, 0, none⟩)] w (JoinPost w0 S0 R d g r o d2 ts (t.text ++ u.text) w) := by
  have HL := hide (len_r hc (h.own t (by simp)).1)
  have HL2 := hide (len_r ho (h.own u (by simp)).1)
  obtain ⟨c0, c1, f0, f1⟩ := rp_cells hc
  obtain ⟨o0, o1, p0, p1⟩ := rp_cells ho
  have HG := hide (show ∀ W, Below w.heap.size w W → Calls Try.prog 43 #[.pointer (some ⟨r, 0, none⟩), .pointer t.addr, .pointer u.addr] W fun e w' => ∃ v : T, e = .returned (.pointer v.addr) ∧ v.text = t.text ++ u.text ∧ Live w0 S0 R d g w' (v :: ts) ∧ Keeps R d w w' from fun W hb => (glue_live (live_bl h hb).1 r hi.rR hi.rd (cell_later hb c0) (by omega)).mono fun e w' ⟨v, he, hv, hl, hk⟩ => ⟨v, he, hv, hl, (live_bl h hb).2.trans hk⟩)
  have HC := hide hc
  have HO := hide ho
  obtain ⟨n, hn⟩ : ∃ n, t.text.length = n := ⟨_, rfl⟩
  obtain ⟨m, hm⟩ : ∃ m, u.text.length = m := ⟨_, rfl⟩
  rw [hn] at HL hlen
  rw [hm] at HL2 hlen
  have g1 : decide ((65536 : Int) < (n : Int) + (m : Int)) = false := decide_eq_false (by omega)
  obtain ⟨i0, hi0, _, hz1, _⟩ := info_parts info_rope
  have hpe := run_eql_ptr_other w (a := ⟨o, 0, none⟩) (b := ⟨r, 0, none⟩) Try.underlying28 hi0 (by omega) (by intro e; injection e with e; exact hro e.symm) ho hc
  have hor : o ≠ r := Ne.symm hro
  clear h hn hm hc ho
  generalize t.addr = ta at *
  generalize u.addr = ua at *
  go_enter Try.func31, Try.ntmps31
  go_wp2_with fail
  refine HL.out.mono ?_
  rintro e w1 ⟨rfl, rfl⟩
  go_wp2_with fail
  refine HL2.out.mono ?_
  rintro e w1 ⟨rfl, rfl⟩
  clear HL HL2 hpe
  go_wp2
  go_region_with (first
    | (go_at_call 43; refine (HG.out _ (by repeat (first | exact bl_refl _ | refine bl_drew ?_))).mono ?_; rintro e w2 ⟨v, rfl, hv, hl2, hk2⟩; have hc2 := rp_keep HC.out hk2 hi.rR hi.rd; have ho2 := rp_keep HO.out hk2 hj.rR hj.rd; obtain ⟨_, e1, _, q1⟩ := rp_cells hc2; obtain ⟨_, e3, _, q3⟩ := rp_cells ho2; have HC2 := hide hc2; have HO2 := hide ho2; clear hc2 ho2)
    | fail)
  all_goals
    have hfin := joined hi hj hro hv hl2 hk2 HC2.out HO2.out
    have HF := hide hfin
    clear hfin hv hl2 hk2 HG HC HO
    go_wp2
    go_ret
    exact HF.out
end Go.Proofs.Ytidfpnedbcaicaa
