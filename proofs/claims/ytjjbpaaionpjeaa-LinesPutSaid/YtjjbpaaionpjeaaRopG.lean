/- A rope in memory among trees of pieces: Insert, Delete, Cut, Join. Condition: texts that are not too long. -/
import Derived.Test.YtjjbpaaionpjeaaRopF
namespace Go.Proofs.Ytjjbpaaionpjeaa
open Go.ChangeShapes Go.WideShapes Go.ChangeAt Go.RowKit
attribute [local go_sem ↓] Go.wp_at_zero Go.wp_at_succ
set_option maxRecDepth 100000
/-- What is reserved stays, but for the dice's cell and a rope. -/
def Keep2 (R : List Nat) (d r : Nat) (w w' : World) : Prop := ∀ k ∈ R, k ≠ d → k ≠ r → w'.heap[k]? = w.heap[k]?
theorem keep2_of {R : List Nat} {d : Nat} {w w' : World} (h : Keeps R d w w') (r : Nat) : Keep2 R d r w w' := fun k hk hn _ => h k hk hn
theorem keep2_set {R : List Nat} {d r : Nat} {w w' : World} (h : Keep2 R d r w w') (o : Nat) (u : Value) : Keep2 R d r w (w'.setCell ⟨r, o, none⟩ u) := fun k hk hn hr => (Below.heap_setCell w' _ _ k hr).trans (h k hk hn hr)
/-- A rope's cell is written: no tree lies there. -/
theorem Live.set {w0 : World} {S0 R : List Nat} {d g : Nat} {w : World} {ts : List T} (h : Live w0 S0 R d g w ts) {r : Nat} (hr : r ∈ R) (hrd : r ≠ d) (hrg : r ≠ g) (hs : r ∈ S0 ∨ w0.heap.size ≤ r) (o : Nat) (u : Value) : Live w0 S0 R d g (w.setCell ⟨r, o, none⟩ u) ts := by
  have hb : ∀ k, k ≠ r → (w.setCell ⟨r, o, none⟩ u).heap[k]? = w.heap[k]? := fun k hk => Below.heap_setCell w _ _ k hk
  have hsz : (w.setCell ⟨r, o, none⟩ u).heap.size = w.heap.size := by simp [World.setCell]
  refine ⟨?_, h.dR, h.gR, fun k hk => by rw [hsz]; exact h.hR k hk, fun t ht => ?_, h.nd, h.off, h.src, h.chg.set (hs.imp (fun h => List.mem_cons_of_mem _ h) id) o u⟩
  · obtain ⟨rest, last, hd⟩ := h.dice
    exact ⟨rest, last, hd.kept (hb d (Ne.symm hrd)) (hb g (Ne.symm hrg))⟩
  · obtain ⟨h1, h2⟩ := h.own t ht
    exact ⟨h1.kept t (fun k hk => hb k (by rintro rfl; exact h.off _ (bks_mem ht hk) hr)), h2⟩
/-- What is asked of a rope's block. -/
structure RpIn (w0 : World) (S0 R : List Nat) (d g r : Nat) : Prop where
  rR : r ∈ R
  rd : r ≠ d
  rg : r ≠ g
  src : r ∈ S0 ∨ w0.heap.size ≤ r
def RopePost (w0 : World) (S0 R : List Nat) (d g r : Nat) (ts : List T) (s : List UInt8) (w : World) (e : Ending) (w' : World) : Prop := ∃ t : T, e = .returned (.int .i64 0) ∧ t.text = s ∧ Live w0 S0 R d g w' (t :: ts) ∧ RpC w' r d t ∧ Keep2 R d r w w'
set_option maxHeartbeats 4000000 in
theorem insert_r {w0 : World} {S0 R : List Nat} {d g r : Nat} {w : World} {t : T} {ts : List T} (h : Live w0 S0 R d g w (t :: ts)) (hc : RpC w r d t) (hi : RpIn w0 S0 R d g r) (k : Nat) (s : ByteArray) (hk : k ≤ t.text.length) (hs : t.text.length + s.size ≤ 65536) :
    Calls Try.prog 31 #[.pointer (some ⟨r, 0, none⟩), .int .i64 k, .string s] w (RopePost w0 S0 R d g r ts (t.text.take k ++ s.data.toList ++ t.text.drop k) w) := by
  have ht := (h.own t (by simp)).1
  have HL := hide (len_r hc ht)
  have HM := hide (may_r hc ht k t.text.length)
  rw [show mayR k t.text.length t.text.length = 0 from by unfold mayR; rw [if_neg (by omega)]] at HM
  obtain ⟨c0, c1, _, _⟩ := rp_cells hc
  have HD := hide (divide_live h r hi.rR hi.rd c0 (by omega) k hk)
  have HC := hide hc
  obtain ⟨n, hn⟩ : ∃ n, t.text.length = n := ⟨_, rfl⟩
  rw [hn] at HL HM hs hk
  have HN := hide hn
  have g1 : decide ((65536 : Int) < (n : Int) + (s.size : Int)) = false := decide_eq_false (by omega)
  clear h ht hn hc
  generalize t.addr = ta at *
  go_enter Try.func31, Try.ntmps31
  go_wp2_with fail
  refine HL.out.mono ?_
  rintro e w1 ⟨rfl, rfl⟩
  go_wp2_with fail
  refine HM.out.mono ?_
  rintro e w1 ⟨rfl, rfl⟩
  go_wp2_with fail
  refine HL.out.mono ?_
  rintro e w1 ⟨rfl, rfl⟩
  go_wp2_with fail
  refine HD.out.mono ?_
  rintro e w1 ⟨a, b, rfl, hta, htb, hl1, hk1⟩
  have e0 := keep_cell hk1 hi.rR hi.rd c0
  have hla : a.text.length = k := by rw [hta, List.length_take, HN.out]; omega
  have hlb : b.text.length = n - k := by rw [htb, List.length_drop, HN.out]
  have HB := hide (build_live hl1 r hi.rR hi.rd e0 s (by omega))
  have HTA := hide hta
  have HTB := hide htb
  have HLA := hide hla
  have HLB := hide hlb
  clear hl1 hta htb hla hlb HD HL HM
  go_wp2_with fail
  refine HB.out.mono ?_
  rintro e w2 ⟨c, rfl, htc, hl2, hk2⟩
  have hK2 := hk1.trans hk2
  have e2 := keep_cell hk2 hi.rR hi.rd e0
  have hlc : c.text.length = s.size := by rw [htc, len_data]
  have HG := hide (glue_live (hl2.perm (.swap _ _ _)) r hi.rR hi.rd e2 (by rw [HLA.out, hlc]; omega))
  have HTC := hide htc
  have HLC := hide hlc
  clear hl2 htc hlc HB
  go_wp2_with fail
  refine HG.out.mono ?_
  rintro e w3 ⟨u, rfl, htu, hl3, hk3⟩
  have hK3 := hK2.trans hk3
  have e3 := keep_cell hk3 hi.rR hi.rd e2
  have HG2 := hide (glue_live hl3 r hi.rR hi.rd e3 (by rw [htu, List.length_append, HLA.out, HLC.out, HLB.out]; omega))
  have HTU := hide htu
  clear hl3 htu HG
  go_wp2_with fail
  refine HG2.out.mono ?_
  rintro e w4 ⟨v, rfl, htv, hl4, hk4⟩
  have hK4 := hK3.trans hk4
  have hc4 := rp_keep HC.out hK4 hi.rR hi.rd
  obtain ⟨_, d1, _, f1⟩ := rp_cells hc4
  have hfin : RopePost w0 S0 R d g r ts (t.text.take k ++ s.data.toList ++ t.text.drop k) w (.returned (.int .i64 0)) (w4.setCell ⟨r, 1, none⟩ (.pointer v.addr)) :=
    ⟨v, rfl, by rw [htv, HTU.out, HTA.out, HTB.out, HTC.out], hl4.set hi.rR hi.rd hi.rg hi.src 1 _, rp_set hc4 v, keep2_set (keep2_of hK4 r) 1 _⟩
  have HF := hide hfin
  clear hfin hl4 htv hc4 HG2
  go_wp2
  go_ret
  exact HF.out
set_option maxHeartbeats 4000000 in
theorem insert_no {w : World} {r d : Nat} {t : T} (hc : RpC w r d t) (ht : t.At w) (k : Int) (s : ByteArray) (hlen : t.text.length ≤ 65536) (hs : s.size ≤ 1000000) (m : Int) (hm : m = if k < 0 ∨ (t.text.length : Int) < k then 3 else 4) (hb : ¬ (k < 0 ∨ (t.text.length : Int) < k) → 65536 < t.text.length + s.size) :
    Calls Try.prog 31 #[.pointer (some ⟨r, 0, none⟩), .int .i64 k, .string s] w fun e w' => e = .returned (.int .i64 m) ∧ w = w' := by
  have HL := hide (len_r hc ht)
  have HM := hide (may_r hc ht k t.text.length)
  clear hc ht
  generalize t.text.length = n at *
  by_cases hx : k < 0 ∨ (n : Int) < k
  · rw [if_pos hx] at hm
    subst hm
    rw [show mayR k n n = 3 from by unfold mayR; rw [if_pos (by omega)]] at HM
    clear hx hb
    go_enter Try.func31, Try.ntmps31
    go_wp2_with fail
    refine HL.out.mono ?_
    rintro e w1 ⟨rfl, rfl⟩
    go_wp2_with fail
    refine HM.out.mono ?_
    rintro e w1 ⟨rfl, rfl⟩
    go_wp2
    go_ret
    exact ⟨rfl, rfl⟩
  · rw [if_neg hx] at hm
    subst hm
    rw [show mayR k n n = 0 from by unfold mayR; rw [if_neg (by omega)]] at HM
    have hb' := hb hx
    have g1 : decide ((65536 : Int) < (n : Int) + (s.size : Int)) = true := decide_eq_true (by omega)
    clear hx hb hb'
    go_enter Try.func31, Try.ntmps31
    go_wp2_with fail
    refine HL.out.mono ?_
    rintro e w1 ⟨rfl, rfl⟩
    go_wp2_with fail
    refine HM.out.mono ?_
    rintro e w1 ⟨rfl, rfl⟩
    go_wp2_with fail
    refine HL.out.mono ?_
    rintro e w1 ⟨rfl, rfl⟩
    go_wp2
    go_ret
    exact ⟨rfl, rfl⟩
end Go.Proofs.Ytjjbpaaionpjeaa
