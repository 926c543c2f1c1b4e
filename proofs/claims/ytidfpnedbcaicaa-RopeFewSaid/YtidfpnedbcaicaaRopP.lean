/- A rope's pieces, with their depths. Condition: a text that is not too long. -/
import Derived.Test.YtidfpnedbcaicaaRopI
import Derived.Deep.AppendLies
namespace Go.Proofs.Ytidfpnedbcaicaa
open Go.ChangeShapes Go.WideShapes Go.ChangeAt Go.RowKit
attribute [local go_sem ↓] Go.wp_at_zero Go.wp_at_succ
set_option maxRecDepth 100000
/-- A piece as it is told: its text, its priority, how deep it hangs. -/
abbrev Pd := ByteArray × Int × Int
def encP (q : Pd) : List Value := [.string q.1, .int .u32 q.2.1, .int .i64 q.2.2]
def flatP (l : List Pd) : List Value := l.flatMap encP
theorem flatP_app (l m : List Pd) : flatP (l ++ m) = flatP l ++ flatP m := by simp [flatP]
theorem flatP_one (q : Pd) : flatP [q] = encP q := by simp [flatP]
theorem flatP_len (l : List Pd) : (flatP l).length = l.length * 3 := by
  induction l with
  | nil => rfl
  | cons a r ih =>
    rw [show flatP (a :: r) = encP a ++ flatP r from rfl, List.length_append, ih]
    simp [encP]; omega
def T.pd : T → Int → List Pd
  | .nil, _ => []
  | .node l _ x p r, k => l.pd (k + 1) ++ (x, p, k) :: r.pd (k + 1)
theorem T.pd_len (t : T) : ∀ k, (t.pd k).length = t.ps.length := by
  induction t with
  | nil => intro k; rfl
  | node l n x p r ihl ihr => intro k; simp [T.pd, T.ps, ihl, ihr]
def PcPost (B : Nat) (n : Nat) (xs : List Value) (w : World) (e : Ending) (w' : World) : Prop := ∃ v : Value, e = .returned v ∧ w'.ownsRow B 60 3 v n xs ∧ Below B w w'
set_option maxHeartbeats 8000000 in
theorem tpieces_any (t : T) (B : Nat) : ∀ (v : Value) (n : Nat) (xs : List Value) (k : Int) (w : World), t.At w → (∀ b ∈ t.blocks, b < B) → B ≤ w.heap.size → w.ownsRow B 60 3 v n xs → n + t.ps.length ≤ 100000 → 0 ≤ k → k + t.ps.length ≤ 1000000 →
    Calls Try.prog 49 #[.pointer t.addr, v, .int .i64 k] w (PcPost B (n + t.ps.length) (xs ++ flatP (t.pd k)) w) := by
  induction t with
  | nil =>
    intro v n xs k w _ _ hB hv _ _ _
    refine (rnpieces_nil v k w).mono ?_
    rintro e w' ⟨he, hw⟩
    subst hw
    exact ⟨v, he, by simpa [T.ps, T.pd, flatP] using hv, (bl_refl _).mono hB⟩
  | node l m x p r ihl ihr =>
    intro v n xs k w ht hb hB hv hn hk1 hk2
    obtain ⟨i0, hi0, hz0', hz1, hz2⟩ := info_parts info_pc
    obtain ⟨_, _, _, _, c4, c9, c10, c11⟩ := node_cell ht
    have hlen : (T.node l m x p r).ps.length = l.ps.length + (r.ps.length + 1) := by simp [T.ps]
    rw [hlen] at hn hk2
    have hmB : m < B := hb m (by simp [T.blocks])
    have HIL := hide (ihl v n xs (k + 1) w ht.2.1 (fun b hx => hb b (by simp [T.blocks, hx])) hB hv (by omega) (by omega) (by omega))
    have HRA := hide ht.2.2
    have HRB := hide (fun b (hx : b ∈ r.blocks) => hb b (by simp [T.blocks, hx]))
    have HIR := hide (fun v n xs w h1 h2 h3 h4 => ihr v n xs (k + 1) w h1 HRB.out h2 h3 h4 (by omega) (by omega))
    have hpd : flatP ((T.node l m x p r).pd k) = flatP (l.pd (k + 1)) ++ ([.string x, .int .u32 p, .int .i64 k] ++ flatP (r.pd (k + 1))) := by
      rw [T.pd, flatP_app, show (x, p, k) :: r.pd (k + 1) = [(x, p, k)] ++ r.pd (k + 1) from rfl, flatP_app, flatP_one]; rfl
    have HPD := hide hpd
    have HLEN := hide hlen
    obtain ⟨aV, cV, rfl⟩ := own_slice hv
    clear ihl ihr ht hb hv hlen hpd
    unfold T.addr
    generalize l.addr = la at *
    generalize r.addr = ra at *
    go_enter Try.func49, Try.ntmps49
    go_wp2_with fail
    refine HIL.out.mono ?_
    rintro e w1 ⟨v1, rfl, hv1, hb1⟩
    obtain ⟨n1, hn1⟩ : ∃ n1, n + l.ps.length = n1 := ⟨_, rfl⟩
    rw [hn1] at hv1
    have hn1b : n1 ≤ 100000 := by omega
    obtain ⟨aW, cW, rfl⟩ := own_slice hv1
    have hB1 := Nat.le_trans hB hb1.size
    have k4 := (hb1.cell (p := ⟨m, 4, none⟩) hmB).trans c4
    have k9 := (hb1.cell (p := ⟨m, 9, none⟩) hmB).trans c9
    have k11 := (hb1.cell (p := ⟨m, 11, none⟩) hmB).trans c11
    have hlt1 : ∀ q, (Value.slice aW n1 cW).ownBlock = some q → B ≤ q := fun q hq => (hv1.lt q hq).1
    have hnm : (Value.slice aW n1 cW).ownBlock ≠ some m := fun e => by have := hlt1 m e; omega
    have HROW := hide hv1
    have HLT1 := hide hlt1
    have HN1 := hide hn1
    have hmw : m < w1.heap.size := by omega
    have hmS := hide (show m < ((w1.alloc (.cells #[.string x, .int .u32 p, .int .i64 k] 60)).drew).heap.size from Nat.lt_of_lt_of_le hmw (bl_drew (bl_alloc (bl_refl w1) _)).size)
    clear hv1 hlt1 HIL c4 c9 c10 c11 hn1
    go_wp2
    go_region_held3 (fun w' => w'.cell? ⟨m, 4, none⟩ = some (.string x) ∧ w'.cell? ⟨m, 9, none⟩ = some (.int .u32 p) ∧ w'.cell? ⟨m, 11, none⟩ = some (.pointer ra) ∧ m < w'.heap.size)
      (first
        | (refine ⟨?_, ?_, ?_, ?_⟩
           · exact (hgrow.cell_far ⟨m, 4, none⟩ (by first | exact hmS.out | (simp; omega)) (Ne.symm hnm)).trans (by first | exact cell_later (bl_drew (bl_alloc (bl_refl w1) _)) k4 | exact cell_later (bl_alloc (bl_drew (bl_refl w1)) _) k4)
           · exact (hgrow.cell_far ⟨m, 9, none⟩ (by first | exact hmS.out | (simp; omega)) (Ne.symm hnm)).trans (by first | exact cell_later (bl_drew (bl_alloc (bl_refl w1) _)) k9 | exact cell_later (bl_alloc (bl_drew (bl_refl w1)) _) k9)
           · exact (hgrow.cell_far ⟨m, 11, none⟩ (by first | exact hmS.out | (simp; omega)) (Ne.symm hnm)).trans (by first | exact cell_later (bl_drew (bl_alloc (bl_refl w1) _)) k11 | exact cell_later (bl_alloc (bl_drew (bl_refl w1)) _) k11)
           · omega)
        | ((repeat' apply And.intro) <;> first | (go_simp; done) | omega | (simp at *; omega)))
      ((refine step_append_lies _ (by rfl) _ _ _ (by rfl) B 60 i0 _ 3 32 Try.underlying55 hi0 hz0' hz1 hz2 rfl (by omega) (.slice aW n1 cW) n1 (xs ++ flatP (l.pd (k + 1))) (by rfl) (by first | exact own_below HROW.out (bl_drew (bl_alloc (bl_refl w1) _)) | exact own_below HROW.out (bl_alloc (bl_drew (bl_refl w1)) _))
          ⟨w1.heap.size, 0, none⟩ 1 1 [.string x, .int .u32 p, .int .i64 k] (by rfl) (by rfl) (World.news_of_block (cs := #[.string x, .int .u32 p, .int .i64 k]) (t := 60) (fr := (0, 0)) (heap_alloc_new w1 _)) (by simp [Value.oneCell'])
          (by omega) (by unfold maxLen; omega) (by omega) (by simp; omega) (w1.heap.size + 1) (by simp) ?_; intro gg cap w3 hown1 hgrow hat hlt; have hgs := hgrow.size))
    have hbl : Below B w w3 := (hb1.trans ((bl_drew (bl_alloc (bl_refl w1) (.cells #[.string x, .int .u32 p, .int .i64 k] 60))).mono hB1)).grown hgrow (Nat.le_trans hB (Nat.le_trans hb1.size (bl_drew (bl_alloc (bl_refl w1) _)).size)) (fun q hq => HLT1.out q hq)
    have hrA : r.At w3 := HRA.out.kept r (fun q hq => hbl.block q (HRB.out q hq))
    have HIR2 := hide (HIR.out _ _ _ w3 hrA (Nat.le_trans hB hbl.size) hown1 (by have := HN1.out; omega))
    have hc3 := (hbl.cell (p := ⟨m, 11, none⟩) hmB).trans ((hb1.cell (p := ⟨m, 11, none⟩) hmB).symm.trans k11)
    clear hown1 hgrow hat hrA HIR
    go_wp2_with fail
    refine HIR2.out.mono ?_
    rintro e w4 ⟨v4, rfl, hv4, hb4⟩
    have hfin : PcPost B (n + (T.node l m x p r).ps.length) (xs ++ flatP ((T.node l m x p r).pd k)) w (.returned v4) w4 :=
      ⟨v4, rfl, by rw [HPD.out, HLEN.out, show n + (l.ps.length + (r.ps.length + 1)) = n1 + 1 + r.ps.length by have := HN1.out; omega]; simpa [List.append_assoc] using hv4, hbl.trans hb4⟩
    have HF := hide hfin
    obtain ⟨aZ, cZ, rfl⟩ := own_slice hv4
    clear hfin hv4 HIR2
    go_wp2
    go_ret
    exact HF.out
theorem pieces_r {w : World} {r d : Nat} {t : T} (h : RpC w r d t) (ht : t.At w) (hn : t.ps.length ≤ 100000) :
    Calls Try.prog 30 #[.pointer (some ⟨r, 0, none⟩)] w (PcPost w.heap.size t.ps.length (flatP (t.pd 0)) w) := by
  obtain ⟨c0, c1, _, _⟩ := rp_cells h
  have HP := hide (tpieces_any t w.heap.size (.slice none 0 0) 0 [] 0 w ht (fun b hb => ht.blocks_lt t b hb) (Nat.le_refl _) ⟨rfl, .inl ⟨rfl, rfl⟩⟩ (by omega) (by omega) (by omega))
  rw [Nat.zero_add, List.nil_append] at HP
  clear h ht
  generalize t.addr = ta at *
  go_enter Try.func30, Try.ntmps30
  go_wp2_with fail
  refine HP.out.mono ?_
  rintro e w1 ⟨v, rfl, hv, hb⟩
  have hfin : PcPost w.heap.size t.ps.length (flatP (t.pd 0)) w (.returned v) w1 := ⟨v, rfl, hv, hb⟩
  have HF := hide hfin
  obtain ⟨aZ, cZ, rfl⟩ := own_slice hv
  clear hfin hv
  go_wp2
  go_ret
  exact HF.out
end Go.Proofs.Ytidfpnedbcaicaa
