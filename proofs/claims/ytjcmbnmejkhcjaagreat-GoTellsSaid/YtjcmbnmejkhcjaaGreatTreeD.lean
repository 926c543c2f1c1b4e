/- A tree of pieces: one put behind another; one divided. Condition: texts that are not too long. -/
import Derived.Test.YtjcmbnmejkhcjaaGreatTreeC
import Derived.BigQuiet
import Derived.Deep.QuietTactic
namespace Go.Proofs.YtjcmbnmejkhcjaaGreat
open Go.ChangeShapes Go.WideShapes Go.ChangeAt Go.RowKit
attribute [local go_sem ↓] Go.wp_at_zero Go.wp_at_succ
set_option maxRecDepth 100000
theorem nd_right {l r b : T} {n : Nat} {x : ByteArray} {p : Int} (h : ((T.node l n x p r).blocks ++ b.blocks).Nodup) :
    (r.blocks ++ b.blocks).Nodup ∧ n ∉ r.blocks ++ b.blocks ∧ n ∉ l.blocks ∧ ∀ k ∈ l.blocks, k ∉ r.blocks ++ b.blocks := by
  have e : (T.node l n x p r).blocks ++ b.blocks = l.blocks ++ n :: (r.blocks ++ b.blocks) := by simp [T.blocks]
  rw [e, List.nodup_append, List.nodup_cons] at h
  obtain ⟨h1, ⟨h2, h3⟩, h4⟩ := h
  exact ⟨h3, h2, fun hm => h4 n hm n (by simp) rfl, fun k hk hm => h4 k hk k (List.mem_cons_of_mem _ hm) rfl⟩
theorem nd_left {a l r : T} {n : Nat} {x : ByteArray} {p : Int} (h : (a.blocks ++ (T.node l n x p r).blocks).Nodup) :
    (a.blocks ++ l.blocks).Nodup ∧ n ∉ a.blocks ++ l.blocks ∧ n ∉ r.blocks ∧ ∀ k ∈ r.blocks, k ∉ a.blocks ++ l.blocks := by
  have e : a.blocks ++ (T.node l n x p r).blocks = (a.blocks ++ l.blocks) ++ n :: r.blocks := by simp [T.blocks]
  rw [e, List.nodup_append, List.nodup_cons] at h
  obtain ⟨h1, ⟨h2, h3⟩, h4⟩ := h
  exact ⟨h1, fun hm => h4 n hm n (by simp) rfl, h2, fun k hk hm => h4 k hm k (List.mem_cons_of_mem _ hk) rfl⟩
theorem blocks_of {t : T} {l : List Pc} (h : t.ps = l) : t.blocks = l.map (·.1) := by rw [T.blocks_ps, h]
theorem mrg_blocks {a b t : T} (h : MrgT a b t) : t.blocks = a.blocks ++ b.blocks := by rw [T.blocks_ps, T.blocks_ps, T.blocks_ps, h.ps, List.map_append]
theorem mrg_text {a b t : T} (h : MrgT a b t) : t.text = a.text ++ b.text := by rw [T.text_ps, T.text_ps, T.text_ps, h.ps, txP_app]
theorem prt_blocks {a b t : T} {k : Int} (h : PrtT t k a b) : t.blocks = a.blocks ++ b.blocks := by rw [T.blocks_ps, T.blocks_ps, T.blocks_ps, ← h.ps, List.map_append]
theorem prt_text {a b t : T} {k : Int} (h : PrtT t k a b) : t.text = a.text ++ b.text := by rw [T.text_ps, T.text_ps, T.text_ps, ← h.ps, txP_app]
/-- A piece's cells, as a walk wants them. -/
theorem node_all {w : World} {n : Nat} {q0 q1 q2 q3 : Int} {x : ByteArray} {p : Int} {la ra : Option Addr} {ty : TypeId} (h : w.heap[n]? = some (.cells (oldCells q0 q1 q2 q3 x p la ra) ty (0, 0))) :
    w.cell? ⟨n, 4, none⟩ = some (.string x) ∧ w.cell? ⟨n, 9, none⟩ = some (.int .u32 p) ∧ w.cell? ⟨n, 10, none⟩ = some (.pointer la) ∧ w.cell? ⟨n, 11, none⟩ = some (.pointer ra) ∧ w.frozen? ⟨n, 10, none⟩ = false ∧ w.frozen? ⟨n, 11, none⟩ = false := by
  refine ⟨?_, ?_, ?_, ?_, ?_, ?_⟩
  · rw [Lib.cell_of_heap h]; rfl
  · rw [Lib.cell_of_heap h]; rfl
  · rw [Lib.cell_of_heap h]; rfl
  · rw [Lib.cell_of_heap h]; rfl
  · simp [World.frozen?, h]
  · simp [World.frozen?, h]
def MrgPost (a b : T) (w : World) (e : Ending) (w' : World) : Prop := ∃ t : T, e = .returned (.pointer t.addr) ∧ t.At w' ∧ MrgT a b t ∧ Chg w w' (a.blocks ++ b.blocks)
theorem merge_right (a : T) (w : World) (h : a.At w) : Calls Tryz.prog 48 #[.pointer a.addr, .pointer none] w (MrgPost a .nil w) := by
  cases a with
  | nil => exact (rmerge_nil none w).mono fun e w' ⟨he, hw⟩ => ⟨.nil, by rw [he]; rfl, trivial, mrg_left _, hw ▸ chg_refl w _⟩
  | node l n x p r =>
    have H := hide h
    clear h
    unfold T.addr
    go_enter Tryz.func48, Tryz.ntmps48
    go_wp2
    go_ret
    exact ⟨.node l n x p r, rfl, H.out, mrg_right _, chg_refl _ _⟩
theorem mrg_from {a b : T} {w W : World} (hb : Below w.heap.size w W) {e : Ending} {w' : World} (h : MrgPost a b W e w') : MrgPost a b w e w' := by
  obtain ⟨t, he, ht, hm, hc⟩ := h
  exact ⟨t, he, ht, hm, (chg_of hb _).trans hc (fun x hx => .inl hx)⟩
/-- The upper of two trees takes what was merged below it. -/
theorem mrg_fin_right {la ra b : T} {na : Nat} {xa : ByteArray} {pa : Int} {W : World} (ha : (T.node la na xa pa ra).At W) (hnd : ((T.node la na xa pa ra).blocks ++ b.blocks).Nodup) (hlen : (T.node la na xa pa ra).text.length + b.text.length ≤ 1000000) (hp : b.top pa)
    (t : T) (w1 : World) (ht : t.At w1) (hm : MrgT ra b t) (hc : Chg W w1 (ra.blocks ++ b.blocks)) :
    (w1.heap[na]? = some (.cells (nodeCells (T.text (.node la na xa pa ra)) xa pa la.addr ra.addr) 99 (0, 0))) ∧
    Calls Tryz.prog 77 #[.pointer (some ⟨na, 0, none⟩)] (w1.setCell ⟨na, 11, none⟩ (.pointer t.addr)) fun e w' => e = .returned (.tuple #[]) ∧ MrgPost (.node la na xa pa ra) b W (.returned (.pointer (some ⟨na, 0, none⟩))) w' := by
  obtain ⟨n1, n2, n3, n4⟩ := nd_right hnd
  have hnaw : na < W.heap.size := ha.blocks_lt _ na (by simp [T.blocks])
  have h1 : w1.heap[na]? = some (.cells (nodeCells (T.text (.node la na xa pa ra)) xa pa la.addr ra.addr) 99 (0, 0)) := (hc.block na hnaw n2).trans ha.1
  refine ⟨h1, ?_⟩
  have hbl : t.blocks = ra.blocks ++ b.blocks := mrg_blocks hm
  have hnt : na ∉ t.blocks := by rw [hbl]; exact n2
  have hset := heap_setN h1 11 (.pointer t.addr)
  have hla1 : la.At w1 := ha.2.1.chg hc n4
  have hta : (T.node la na xa pa ra).text.length = la.text.length + (xa.size + ra.text.length) := by simp [T.text]
  refine (refresh_any la t na xa pa _ _ _ _ _ hset ?_ ?_ n3 hnt ?_).mono ?_
  · exact hla1.kept _ (fun q hq => Below.heap_setCell w1 _ _ q (by rintro rfl; exact n3 hq))
  · exact ht.kept _ (fun q hq => Below.heap_setCell w1 _ _ q (by rintro rfl; exact hnt hq))
  · rw [show (T.node la na xa pa t).text.length = la.text.length + (xa.size + t.text.length) by simp [T.text], mrg_text hm, List.length_append]; omega
  · rintro e w' ⟨rfl, hat, hch⟩
    refine ⟨rfl, .node la na xa pa t, rfl, hat, mrg_up hm hp, ?_⟩
    have hc1 : Chg W w1 ((T.node la na xa pa ra).blocks ++ b.blocks) := hc.mono (fun q hq => by
      rcases List.mem_append.1 hq with hq | hq
      · exact List.mem_append_left _ (by simp [T.blocks, hq])
      · exact List.mem_append_right _ hq)
    have hin : na ∈ (T.node la na xa pa ra).blocks ++ b.blocks := List.mem_append_left _ (by simp [T.blocks])
    exact (hc1.set (.inl hin) 11 _).trans hch (fun q hq => .inl (by rw [List.mem_singleton] at hq; rw [hq]; exact hin))
theorem mrg_fin_left {a lb rb : T} {nb : Nat} {xb : ByteArray} {pb : Int} {W : World} (hb : (T.node lb nb xb pb rb).At W) (hnd : (a.blocks ++ (T.node lb nb xb pb rb).blocks).Nodup) (hlen : a.text.length + (T.node lb nb xb pb rb).text.length ≤ 1000000) (hp : a.top pb)
    (t : T) (w1 : World) (ht : t.At w1) (hm : MrgT a lb t) (hc : Chg W w1 (a.blocks ++ lb.blocks)) :
    (w1.heap[nb]? = some (.cells (nodeCells (T.text (.node lb nb xb pb rb)) xb pb lb.addr rb.addr) 99 (0, 0))) ∧
    Calls Tryz.prog 77 #[.pointer (some ⟨nb, 0, none⟩)] (w1.setCell ⟨nb, 10, none⟩ (.pointer t.addr)) fun e w' => e = .returned (.tuple #[]) ∧ MrgPost a (.node lb nb xb pb rb) W (.returned (.pointer (some ⟨nb, 0, none⟩))) w' := by
  obtain ⟨n1, n2, n3, n4⟩ := nd_left hnd
  have hnbw : nb < W.heap.size := hb.blocks_lt _ nb (by simp [T.blocks])
  have h1 : w1.heap[nb]? = some (.cells (nodeCells (T.text (.node lb nb xb pb rb)) xb pb lb.addr rb.addr) 99 (0, 0)) := (hc.block nb hnbw n2).trans hb.1
  refine ⟨h1, ?_⟩
  have hbl : t.blocks = a.blocks ++ lb.blocks := mrg_blocks hm
  have hnt : nb ∉ t.blocks := by rw [hbl]; exact n2
  have hset := heap_setN h1 10 (.pointer t.addr)
  have hrb1 : rb.At w1 := hb.2.2.chg hc n4
  have htb : (T.node lb nb xb pb rb).text.length = lb.text.length + (xb.size + rb.text.length) := by simp [T.text]
  refine (refresh_any t rb nb xb pb _ _ _ _ _ hset ?_ ?_ hnt n3 ?_).mono ?_
  · exact ht.kept _ (fun q hq => Below.heap_setCell w1 _ _ q (by rintro rfl; exact hnt hq))
  · exact hrb1.kept _ (fun q hq => Below.heap_setCell w1 _ _ q (by rintro rfl; exact n3 hq))
  · rw [show (T.node t nb xb pb rb).text.length = t.text.length + (xb.size + rb.text.length) by simp [T.text], mrg_text hm, List.length_append]; omega
  · rintro e w' ⟨rfl, hat, hch⟩
    refine ⟨rfl, .node t nb xb pb rb, rfl, hat, mrg_down hm hp, ?_⟩
    have hc1 : Chg W w1 (a.blocks ++ (T.node lb nb xb pb rb).blocks) := hc.mono (fun q hq => by
      rcases List.mem_append.1 hq with hq | hq
      · exact List.mem_append_left _ hq
      · exact List.mem_append_right _ (by simp [T.blocks, hq]))
    have hin : nb ∈ a.blocks ++ (T.node lb nb xb pb rb).blocks := List.mem_append_right _ (by simp [T.blocks])
    exact (hc1.set (.inl hin) 10 _).trans hch (fun q hq => .inl (by rw [List.mem_singleton] at hq; rw [hq]; exact hin))
set_option maxHeartbeats 8000000 in
theorem merge_any : ∀ (k : Nat) (a b : T) (w : World), a.ps.length + b.ps.length ≤ k → a.At w → b.At w → (a.blocks ++ b.blocks).Nodup → a.text.length + b.text.length ≤ 1000000 →
    Calls Tryz.prog 48 #[.pointer a.addr, .pointer b.addr] w (MrgPost a b w) := by
  intro k
  induction k with
  | zero =>
    intro a b w hk ha hb _ _
    have : a = .nil := by cases a with
      | nil => rfl
      | node => simp [T.ps] at hk
    subst this
    exact (rmerge_nil b.addr w).mono fun e w' ⟨he, hw⟩ => ⟨b, he, hw ▸ hb, mrg_left _, hw ▸ chg_refl w _⟩
  | succ k ih =>
    intro a b w hk ha hb hnd hlen
    cases a with
    | nil => exact (rmerge_nil b.addr w).mono fun e w' ⟨he, hw⟩ => ⟨b, he, hw ▸ hb, mrg_left _, hw ▸ chg_refl w _⟩
    | node la na xa pa ra =>
    cases b with
    | nil => exact merge_right _ w ha
    | node lb nb xb pb rb =>
    obtain ⟨_, _, _, _, _, a9, a10, a11⟩ := node_cell ha
    obtain ⟨_, _, _, _, _, b9, b10, b11⟩ := node_cell hb
    have hpsa : (T.node la na xa pa ra).ps.length = la.ps.length + (ra.ps.length + 1) := by simp [T.ps]
    have hpsb : (T.node lb nb xb pb rb).ps.length = lb.ps.length + (rb.ps.length + 1) := by simp [T.ps]
    have hta : (T.node la na xa pa ra).text.length = la.text.length + (xa.size + ra.text.length) := by simp [T.text]
    have htb : (T.node lb nb xb pb rb).text.length = lb.text.length + (xb.size + rb.text.length) := by simp [T.text]
    by_cases hp : pb ≤ pa
    · have hr : ∀ W, Below w.heap.size w W → Calls Tryz.prog 48 #[.pointer ra.addr, .pointer (some ⟨nb, 0, none⟩)] W (MrgPost ra (.node lb nb xb pb rb) W) := fun W hbW => ih ra (.node lb nb xb pb rb) W (by omega) (ha.2.2.later _ hbW) (hb.later _ hbW) (nd_right hnd).1 (by omega)
      have HIH := hide hr
      have hf := fun W (hbW : Below w.heap.size w W) => mrg_fin_right (b := .node lb nb xb pb rb) (ha.later _ hbW) hnd hlen hp
      have HFIN := hide hf
      have hd : decide (pb ≤ pa) = true := by simpa using hp
      clear ih ha hb hnd hlen hk hpsa hpsb hta htb hr hf
      unfold T.addr
      go_enter Tryz.func48, Tryz.ntmps48
      go_wp2
      go_quiet (fail)
      have hbW := bl_drewN (bl_refl w) nq
      go_wp2_with fail
      refine (HIH.out _ hbW).mono ?_
      rintro e w1 ⟨t, rfl, ht, hm, hc⟩
      obtain ⟨h1, h2⟩ := HFIN.out _ hbW t w1 ht hm hc
      obtain ⟨_, _, _, c11, _, f11⟩ := node_all h1
      have HREF := hide h2
      clear h1 h2 ht hm hc HIH HFIN
      go_wp2_with fail
      refine HREF.out.mono ?_
      rintro e w2 ⟨rfl, hpost⟩
      have HPOST := hide (mrg_from hbW hpost)
      clear hpost HREF
      go_wp2
      go_ret
      exact HPOST.out
    · have hr : ∀ W, Below w.heap.size w W → Calls Tryz.prog 48 #[.pointer (some ⟨na, 0, none⟩), .pointer lb.addr] W (MrgPost (.node la na xa pa ra) lb W) := fun W hbW => ih (.node la na xa pa ra) lb W (by omega) (ha.later _ hbW) (hb.2.1.later _ hbW) (nd_left hnd).1 (by omega)
      have HIH := hide hr
      have hf := fun W (hbW : Below w.heap.size w W) => mrg_fin_left (a := .node la na xa pa ra) (hb.later _ hbW) hnd hlen (show pa ≤ pb by omega)
      have HFIN := hide hf
      have hd : decide (pb ≤ pa) = false := by simpa using hp
      clear ih ha hb hnd hlen hk hpsa hpsb hta htb hr hf
      unfold T.addr
      go_enter Tryz.func48, Tryz.ntmps48
      go_wp2
      go_quiet (fail)
      have hbW := bl_drewN (bl_refl w) nq
      go_wp2_with fail
      refine (HIH.out _ hbW).mono ?_
      rintro e w1 ⟨t, rfl, ht, hm, hc⟩
      obtain ⟨h1, h2⟩ := HFIN.out _ hbW t w1 ht hm hc
      obtain ⟨_, _, c10, _, f10, _⟩ := node_all h1
      have HREF := hide h2
      clear h1 h2 ht hm hc HIH HFIN
      go_wp2_with fail
      refine HREF.out.mono ?_
      rintro e w2 ⟨rfl, hpost⟩
      have HPOST := hide (mrg_from hbW hpost)
      clear hpost HREF
      go_wp2
      go_ret
      exact HPOST.out
end Go.Proofs.YtjcmbnmejkhcjaaGreat
