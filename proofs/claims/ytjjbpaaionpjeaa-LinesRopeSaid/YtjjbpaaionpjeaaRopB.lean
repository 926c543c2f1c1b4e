/- Ropes at the laws with one block of a function's own beside them. -/
import Derived.Test.YtjjbpaaionpjeaaRopJ
namespace Go.Proofs.Ytjjbpaaionpjeaa
open Go.ChangeShapes Go.WideShapes Go.ChangeAt Go.RowKit
attribute [local go_sem ↓] Go.wp_at_zero Go.wp_at_succ
set_option maxRecDepth 100000
theorem Live.more {w0 : World} {S0 R : List Nat} {d g : Nat} {w : World} {ts : List T} (h : Live w0 S0 R d g w ts) {B : Nat} (hB : B < w.heap.size) (ho : B ∉ bks ts) : Live w0 S0 (B :: R) d g w ts :=
  ⟨h.dice, List.mem_cons_of_mem _ h.dR, List.mem_cons_of_mem _ h.gR, fun k hk => (List.mem_cons.1 hk).elim (fun e => e ▸ hB) (h.hR k), h.own, h.nd, fun k hk hm => (List.mem_cons.1 hm).elim (fun e => ho (e ▸ hk)) (h.off k hk), h.src, h.chg⟩
theorem Live.less {w0 : World} {S0 R R2 : List Nat} {d g : Nat} {w : World} {ts : List T} (h : Live w0 S0 R d g w ts) (hs : ∀ k ∈ R2, k ∈ R) (hd : d ∈ R2) (hg : g ∈ R2) : Live w0 S0 R2 d g w ts :=
  ⟨h.dice, hd, hg, fun k hk => h.hR k (hs k hk), h.own, h.nd, fun k hk hm => h.off k hk (hs k hm), h.src, h.chg⟩
/-- Ropes, and a block B that none of them has, with o in it. -/
structure RstB (w0 w : World) (D : List (Nat × Nat)) (rs : List Rp) (B : Nat) (o : Obj) : Prop where
  st : Rst w0 w D rs
  at' : w.heap[B]? = some o
  ne : B ∉ RR D rs
  off : B ∉ bks (trs rs)
theorem RstB.lt {w0 w : World} {D : List (Nat × Nat)} {rs : List Rp} {B : Nat} {o : Obj} (h : RstB w0 w D rs B o) : B < w.heap.size := (Array.getElem?_eq_some_iff.1 h.at').1
theorem rst_box {w0 w : World} {D : List (Nat × Nat)} {rs : List Rp} (h : Rst w0 w D rs) (o : Obj) : RstB w0 (w.alloc o) D rs w.heap.size o :=
  ⟨h.bl (bl_alloc (bl_refl w) o), heap_alloc_new w o, fun hm => by have := (h.rsv _ hm).2; omega, fun hm => by
    obtain ⟨t, ht, hk⟩ := List.mem_flatMap.1 hm
    have := (h.own t ht).1.blocks_lt t _ hk
    omega⟩
theorem RstB.bl {w0 w w' : World} {D : List (Nat × Nat)} {rs : List Rp} {B : Nat} {o : Obj} (h : RstB w0 w D rs B o) (hb : Below w.heap.size w w') : RstB w0 w' D rs B o :=
  ⟨h.st.bl hb, (hb.block _ h.lt).trans h.at', h.ne, h.off⟩
theorem RstB.live {w0 w : World} {D : List (Nat × Nat)} {rs : List Rp} {B : Nat} {o : Obj} (h : RstB w0 w D rs B o) {d g : Nat} (hd : (d, g) ∈ D) : Live w0 [] (B :: RR D rs) d g w (trs rs) := (h.st.live hd).more h.lt h.off
theorem RstB.ned {w0 w : World} {D : List (Nat × Nat)} {rs : List Rp} {B : Nat} {o : Obj} (h : RstB w0 w D rs B o) {d g : Nat} (hd : (d, g) ∈ D) : B ≠ d := fun e => h.ne (e ▸ rr_d hd)
theorem RstB.ner {w0 w : World} {D : List (Nat × Nat)} {rs : List Rp} {B : Nat} {o : Obj} (h : RstB w0 w D rs B o) {q : Rp} (hq : q ∈ rs) : B ≠ q.1 := fun e => h.ne (e ▸ rr_r hq)
theorem rr_cong {D : List (Nat × Nat)} {rs us : List Rp} (h : rs.map (·.1) = us.map (·.1)) : RR D rs = RR D us := by unfold RR; rw [h]
theorem rst_oneB {w0 w w' : World} {D : List (Nat × Nat)} {r d g : Nat} {t t' : T} {rs : List Rp} {B : Nat} {o : Obj} (h : RstB w0 w D ((r, d, t) :: rs) B o) (hd : (d, g) ∈ D) (hl : Live w0 [] (B :: RR D ((r, d, t) :: rs)) d g w' (t' :: trs rs)) (hc : RpC w' r d t') (hk : Keep2 (B :: RR D ((r, d, t) :: rs)) d r w w') : RstB w0 w' D ((r, d, t') :: rs) B o :=
  ⟨rst_one h.st hd (hl.less (fun _ hk => List.mem_cons_of_mem _ hk) (rr_d hd) (rr_g hd)) hc (fun _ hm => hk _ (List.mem_cons_of_mem _ hm)), (hk B List.mem_cons_self (h.ned hd) (h.ner (q := (r, d, t)) List.mem_cons_self)).trans h.at', h.ne, fun hm => hl.off B hm List.mem_cons_self⟩
def InsPostB (w0 : World) (D : List (Nat × Nat)) (r d : Nat) (rs : List Rp) (B : Nat) (o : Obj) (x : ByteArray) (m : Int) (e : Ending) (w' : World) : Prop := ∃ t, e = .returned (.int .i64 m) ∧ Tx t x ∧ RstB w0 w' D ((r, d, t) :: rs) B o
theorem rst_insB {w0 w : World} {D : List (Nat × Nat)} {r d g : Nat} {t : T} {rs : List Rp} {B : Nat} {o : Obj} (h : RstB w0 w D ((r, d, t) :: rs) B o) (hd : (d, g) ∈ D) {x : ByteArray} (hx : Tx t x) (a : Int) (s : ByteArray) (hs : x.size + s.size ≤ 65536) :
    Calls Try.prog 31 #[.pointer (some ⟨r, 0, none⟩), .int .i64 a, .string s] w (InsPostB w0 D r d rs B o (insT x s a) (mayR a a x.size)) := by
  unfold insT
  rcases mayR_cases a a x.size with ⟨hm, h1, h2, h3⟩ | ⟨hm, h1⟩
  · rw [if_pos hm, hm]
    obtain ⟨k, rfl⟩ : ∃ k : Nat, a = k := ⟨a.toNat, by omega⟩
    refine (insert_r (h.live hd) (h.st.rp _ List.mem_cons_self) ((h.st.rpIn hd List.mem_cons_self).more B) k s (by rw [hx.len]; omega) (by rw [hx.len]; exact hs)).mono ?_
    rintro e w' ⟨t', rfl, ht, hl, hc, hk2⟩
    exact ⟨t', rfl, Tx.of ht (by rw [hx, show (k : Int).toNat = k from rfl, ← ext_take, ← ext_drop]; simp only [ByteArray.data_append, Array.toList_append]), rst_oneB h hd hl hc hk2⟩
  · rw [if_neg (by rw [hm]; decide), hm]
    have hlen := hx.len
    have hc : RpC w r d t := h.st.rp (r, d, t) (by simp)
    have ht : t.At w := (h.st.at' (q := (r, d, t)) (by simp)).1
    refine (insert_no hc ht a s (by omega) (by omega) 3 ?_ ?_).mono ?_
    · rw [if_pos (by omega)]
    · intro hc; exact absurd (by omega) hc
    · rintro e w' ⟨rfl, rfl⟩
      exact ⟨t, rfl, hx, h⟩
def NewsPostB (w0 : World) (D : List (Nat × Nat)) (d : Nat) (rs : List Rp) (B : Nat) (o : Obj) (x : ByteArray) (e : Ending) (w' : World) : Prop := ∃ (r : Nat) (t : T), e = .returned (.tuple #[.pointer (some ⟨r, 0, none⟩), .int .i64 0]) ∧ (∀ q ∈ rs, q.1 ≠ r) ∧ Tx t x ∧ RstB w0 w' D ((r, d, t) :: rs) B o
theorem rst_new2B {w0 w : World} {D : List (Nat × Nat)} {d g : Nat} {rs : List Rp} {B : Nat} {o : Obj} (h0 : RstB w0 w D rs B o) (hd : (d, g) ∈ D) (x y : ByteArray) (hlen : x.size + y.size ≤ 65536) :
    Calls Try.prog 28 #[.pointer (some ⟨d, 0, none⟩), .slice (some ⟨w.heap.size, 0, none⟩) 2 2] (w.alloc (.cells #[.string x, .string y] 9)) (NewsPostB w0 D d rs B o (x ++ y)) := by
  have h := h0.bl (bl_alloc (bl_refl w) (Obj.cells #[.string x, .string y] 9))
  have hcat : cat [x, y] = (x ++ y).data.toList := by simp [cat]
  refine (new_r (h.live hd) w.heap.size 0 2 [x, y] (by simp) (fun j z hz => ?_) (by simp) (by simp) (by rw [hcat]; show (x ++ y).size ≤ 65536; rw [ByteArray.size_append]; exact hlen)).mono ?_
  · rcases j with _ | _ | j
    · obtain rfl : x = z := by simpa using hz
      exact cells_lit w #[.string x, .string y] _ 0 _ rfl
    · obtain rfl : y = z := by simpa using hz
      exact cells_lit w #[.string x, .string y] _ 1 _ rfl
    · simp at hz
  · rintro e w' ⟨r, t, rfl, hr, ht, hl, hco, hk⟩
    have hne : B ≠ r := by have := h.lt; omega
    have hl2 : Live w0 [] (r :: RR D rs) d g w' (t :: trs rs) := hl.less (fun k hk => by
      rcases List.mem_cons.1 hk with rfl | hk
      · exact List.mem_cons_self
      · exact List.mem_cons_of_mem _ (List.mem_cons_of_mem _ hk)) (List.mem_cons_of_mem _ (rr_d hd)) (List.mem_cons_of_mem _ (rr_g hd))
    refine ⟨r, t, rfl, fun q hq e => ?_, Tx.of ht hcat, ⟨rst_more (us := rs) h.st hd hr rfl hl2 hco (fun q hq => ?_) (keep_dice (r := (w.alloc (Obj.cells #[.string x, .string y] 9)).heap.size) (fun _ x => x) (fun p hp => ?_) (keep2_of (fun k hm hn => hk k (List.mem_cons_of_mem _ hm) hn) _)), (hk B List.mem_cons_self (h.ned hd)).trans h.at', fun hm => ?_, fun hm => hl.off B hm (List.mem_cons_of_mem _ List.mem_cons_self)⟩⟩
    · have := (h.st.rsv _ (rr_r hq)).2; omega
    · exact (hk q.1 (List.mem_cons_of_mem _ (rr_r hq)) (h.st.rd q hq _ hd).1).trans (h.st.rp q hq)
    · have h5 := (h.st.rsv _ (rr_d hp)).2
      have h6 := (h.st.rsv _ (rr_g hp)).2
      exact ⟨by omega, by omega⟩
    · rcases rr_mem.1 hm with ⟨p, hp, e⟩ | ⟨p, hp, e⟩ | ⟨q, hq, e⟩
      · exact h.ne (e ▸ rr_d hp)
      · exact h.ne (e ▸ rr_g hp)
      · rcases List.mem_cons.1 hq with rfl | hq
        · exact hne e.symm
        · exact h.ne (e ▸ rr_r hq)
def JoinsPostB (w0 : World) (D : List (Nat × Nat)) (r d o d2 : Nat) (rs : List Rp) (B : Nat) (ob : Obj) (x : ByteArray) (e : Ending) (w' : World) : Prop := ∃ t : T, e = .returned (.int .i64 0) ∧ Tx t x ∧ RstB w0 w' D ((r, d, t) :: (o, d2, .nil) :: rs) B ob
theorem RstB.swap {w0 w : World} {D : List (Nat × Nat)} {a b : Rp} {rs : List Rp} {B : Nat} {o : Obj} (h : RstB w0 w D (a :: b :: rs) B o) : RstB w0 w D (b :: a :: rs) B o := by
  have hp : (a :: b :: rs).Perm (b :: a :: rs) := .swap _ _ _
  have ht : (trs (a :: b :: rs)).Perm (trs (b :: a :: rs)) := hp.map _
  have hb : (bks (trs (a :: b :: rs))).Perm (bks (trs (b :: a :: rs))) := ht.flatMap_right _
  refine ⟨h.st.swap, h.at', fun hm => h.ne ?_, fun hm => h.off (hb.mem_iff.2 hm)⟩
  rw [rr_mem] at hm ⊢
  simpa only [hp.mem_iff] using hm
end Go.Proofs.Ytjjbpaaionpjeaa
