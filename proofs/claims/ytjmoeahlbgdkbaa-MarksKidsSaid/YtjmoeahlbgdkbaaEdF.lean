/- Plain facts of edits that may be done; edits in order that stay as they are while a text is built beside them. -/
import Derived.Test.YtjmoeahlbgdkbaaEdD
import Derived.Test.YtjmoeahlbgdkbaaBuilderG
import Derived.Shelf.Strings.BuilderK
namespace Go.Proofs.Ytjmoeahlbgdkbaa
open Go.ChangeShapes Go.WideShapes Go.ChangeAt Go.RowKit
open SpanM EdM
attribute [local go_sem ↓] Go.wp_at_zero Go.wp_at_succ
attribute [local go_sem] later_cell later_frozen
theorem chain_of {n : Int} {l : List Ed} : ∀ {a : Int}, (∀ e ∈ l, a ≤ e.1.1 ∧ e.1.1 ≤ e.1.2 ∧ e.1.2 ≤ n) → (l.Pairwise fun a b => R a.1 b.1) → a ≤ n → Chain n a l := by
  induction l with
  | nil => intro a _ _ h; exact h
  | cons e r ih =>
    intro a h hp ha
    obtain ⟨h1, h2, h3⟩ := h e (by simp)
    obtain ⟨p1, p2⟩ := List.pairwise_cons.1 hp
    exact ⟨h1, h2, ih (fun x hx => by have := h x (by simp [hx]); have := p1 x hx; unfold R at this; omega) p2 h3⟩
theorem sortS_map (l : List Ed) : sortS (l.map (·.1)) = (sortE l).map (·.1) :=
  sortS_eq ((sortE_perm l).map _) (by
    unfold Sorted
    rw [List.pairwise_map]
    exact sortE_sorted l)
/-- Edits that may be done: in order they are a chain. -/
structure Fine (n : Int) (l : List Ed) : Prop where
  chain : Chain n 0 (sortE l)
  rise : (sortE l).Pairwise fun a b => R a.1 b.1
  size : grown n l ≤ 65536
  mem : ∀ e ∈ l, 0 ≤ e.1.1 ∧ e.1.1 ≤ e.1.2 ∧ e.1.2 ≤ n
theorem fine_of {n : Int} {l : List Ed} (hn : 0 ≤ n) (h : mayE n l = 0) : Fine n l := by
  unfold mayE at h
  by_cases h1 : l.all (fun e => mayB e.1 n) = true
  · rw [if_pos h1] at h
    by_cases h2 : apF (sortS (l.map (·.1))) = true
    · rw [if_pos h2] at h
      have hm : ∀ e ∈ l, 0 ≤ e.1.1 ∧ e.1.1 ≤ e.1.2 ∧ e.1.2 ≤ n := fun e he => by
        have := List.all_eq_true.1 h1 e he
        unfold mayB at this
        simpa using this
      rw [sortS_map, apF_iff] at h2
      have hp := h2.2
      rw [List.pairwise_map] at hp
      have hg : grown n l ≤ 65536 := by
        by_cases hg : grown n l > 65536
        · rw [if_pos hg] at h; omega
        · omega
      exact ⟨chain_of (fun e he => hm e ((sortE_perm l).mem_iff.1 he)) hp hn, hp, hg, hm⟩
    · rw [if_neg h2] at h; omega
  · rw [if_neg h1] at h; omega
theorem fine_code {n : Int} {l : List Ed} (h : Fine n l) : mayE n l = 0 := by
  unfold mayE
  have h1 : l.all (fun e => mayB e.1 n) = true := by
    rw [List.all_eq_true]
    intro e he
    have := h.mem e he
    unfold mayB
    simpa using this
  have h2 : apF (sortS (l.map (·.1))) = true := by
    rw [sortS_map, apF_iff]
    refine ⟨fun s hs => ?_, by rw [List.pairwise_map]; exact h.rise⟩
    simp only [List.mem_map] at hs
    obtain ⟨e, he, rfl⟩ := hs
    exact (h.mem e ((sortE_perm l).mem_iff.1 he)).2.1
  rw [if_pos h1, if_pos h2, if_neg (by have := h.size; omega)]
theorem fine_len {s : Bs} {l : List Ed} (h : Fine s.length l) : ((appR s (sortE l)).length : Int) = grown s.length l := by
  rw [(appR_len s (sortE l) 0 (Int.le_refl _) h.chain).1, grown_add, tot_perm (sortE_perm l)]
/-- A text's bytes. -/
def bts (s : ByteArray) : Bs := s.data.toList
theorem bts_len (s : ByteArray) : (bts s).length = s.size := len_data s
def mkT (l : Bs) : ByteArray := ⟨l.toArray⟩
theorem bts_mk (l : Bs) : bts (mkT l) = l := by simp [bts, mkT]
theorem mk_bts (s : ByteArray) : mkT (bts s) = s := by obtain ⟨⟨l⟩⟩ := s; rfl
theorem mk_size (l : Bs) : (mkT l).size = l.length := by rw [← bts_len, bts_mk]
theorem bts_ext (s : ByteArray) (a b : Nat) : bts (s.extract a b) = ((bts s).take b).drop a := by
  unfold bts
  rw [Lib.extract_data, List.drop_take]
theorem byteCells_len (l : List UInt8) : (Lib.byteCells l).length = l.length := by simp [Lib.byteCells]
theorem byteCells_str (a : Bs) (s : ByteArray) : Lib.byteCells (a ++ bts s) = Lib.byteCells a ++ Lib.strCells s := by
  have : Lib.strCells s = Lib.byteCells (bts s) := by obtain ⟨⟨l⟩⟩ := s; rfl
  rw [this]; simp [Lib.byteCells]
/-- Edits that a slice holds, either ahead of block B or in a row of the call's own. -/
def SrcE (B : Nat) (w : World) (v : Value) (l : List Ed) : Prop :=
  (EdAt w v l ∧ ∀ b o n c, v = .slice (some ⟨b, o, none⟩) n c → 0 < l.length → b < B) ∨ w.ownsRow B 61 3 v l.length (flatE l)
theorem srcE_at {B : Nat} {w : World} {v : Value} {l : List Ed} (h : SrcE B w v l) : EdAt w v l := h.elim (·.1) own_edat
theorem srcE_below {B : Nat} {w w' : World} {v : Value} {l : List Ed} (h : SrcE B w v l) (hb : Below w.heap.size w w') : SrcE B w' v l :=
  h.imp (fun h => ⟨edat_below h.1 hb, h.2⟩) (fun h => own_below h hb)
set_option maxRecDepth 100000 in
set_option maxHeartbeats 1000000 in
theorem inorder2_any (B : Nat) (v : Value) (l : List Ed) (w : World) (h : EdAt w v l) (hl : l.length ≤ 20) (hB : ∀ b o n c, v = .slice (some ⟨b, o, none⟩) n c → 0 < l.length → b < B) (hBw : B ≤ w.heap.size) :
    Calls Try.prog 53 #[v] w fun e w' => ∃ v', e = .returned v' ∧ Below w.heap.size w w' ∧ SrcE B w' v' (sortE l) := by
  have H := hide h
  have HB := hide hB
  clear h hB
  go_enter Try.func53, Try.ntmps53
  go_wp2_with fail
  refine (issorted_any v l _ H.out (by omega)).mono ?_
  rintro e w1 ⟨⟨rfl, hs⟩ | rfl, hb1⟩
  · have he : sortE l = l := sortE_self l (sorted_of_cmp l hs)
    have H1 : Hid (SrcE B w1 v (sortE l)) := hide (by rw [he]; exact .inl ⟨edat_below H.out hb1, HB.out⟩)
    clear he hs
    go_wp2
    go_ret
    exact ⟨_, rfl, hb1, H1.out⟩
  · have H1 := hide (edat_below H.out hb1)
    go_wp2_with fail
    refine (sortE_any v l _ H1.out hl).mono ?_
    rintro e w2 ⟨v2, rfl, hb2, ho2⟩
    have H2 : Hid (SrcE B w2 v2 (sortE l)) := hide (.inr (by rw [sortE_len]; exact own_base ho2 (by have := hb1.size; omega)))
    clear ho2
    go_wp2
    go_ret
    exact ⟨_, rfl, bl_trans hb1 hb2, H2.out⟩
theorem may6e_any (n r : Int) (v : Value) (l : List Ed) (w : World) (h : EdAt w v l) (hl : l.length ≤ 1000) (hx : ∀ e ∈ l, e.2.size ≤ 70000) (hn : 0 ≤ n ∧ n ≤ 1000000) (hr : mayE n l = r) :
    Calls Try.prog 52 #[.int .i64 n, v] w fun e w' => e = .returned (.int .i64 r) ∧ Below w.heap.size w w' := by
  subst hr; exact may6_any n v l w h hl hx hn
theorem builder_block {T e : TypeId} {B b : Nat} {p : Value} {bs : List Value} {w : World} (h : Lib.BuilderAtF T e B b p bs w) : ∃ q, w.heap[b]? = some (.cells #[p, q] T (0, 0)) := by
  obtain ⟨_, v, hb, _⟩ := h
  exact ⟨v, hb⟩
end Go.Proofs.Ytjmoeahlbgdkbaa
