/- Plain facts: nested groups, a row of characters; Low. No condition. -/
import Derived.Test.YtmfaeonlmfejdaaRyH
import Derived.Test.YtmfaeonlmfejdaaApp
namespace Go.Proofs.Ytmfaeonlmfejdaa
open Go.ChangeShapes Go.WideShapes Go.ChangeAt Go.RowKit
open SetM
set_option maxRecDepth 100000
set_option linter.unusedVariables false
/-- So many groups within one another about one character. -/
def nestM (b : Bool) : Nat → Rt
  | 0 => lA
  | k + 1 => .mk (if b && decide (k % 2 = 0) then 6 else 5) ⟨#[]⟩ false (.slice none 0 0) [] 0 0 false (.slice none 0 0) [nestM b k]
theorem nest_d (b : Bool) (k : Nat) : dM (nestM b k) = k := by
  induction k with
  | zero => rfl
  | succ k ih =>
    rw [nestM, dM_eq]
    show dL [nestM b k] + _ = _
    have : dL [nestM b k] = k := by simp [dL, ih]
    rw [this, if_pos]
    show (if _ then _ else _) = _ ∨ (if _ then _ else _) = _
    split
    · exact .inr rfl
    · exact .inl rfl
theorem nest_p (b : Bool) (k : Nat) : pM (nestM b k) = k + 1 := by
  induction k with
  | zero => rfl
  | succ k ih =>
    rw [nestM, pM_eq]
    show 1 + pL [nestM b k] = _
    simp [pL, ih]; omega
theorem nest_s (b : Bool) (k : Nat) : sM (nestM b k) = k + 2 := by
  induction k with
  | zero => rfl
  | succ k ih =>
    rw [nestM, sM_eq]
    show 1 + 0 + rwS [] + sL [nestM b k] = _
    simp [sL, rwS, ih]; omega
theorem nest_ok (b : Bool) (k : Nat) : okM (nestM b k) = true := by
  induction k with
  | zero => exact ok_lA
  | succ k ih =>
    rw [nestM, okM_eq]
    cases h : (b && decide (k % 2 = 0)) <;> simp [Rt.k, Rt.ch, Rt.nt, Rt.rows, Rt.mi, Rt.ma, Rt.lz, Rt.kids, mfB, mkB, bareB, okL, ih]
theorem nest_er (b : Bool) (k : Nat) : er (nestM b k) = nestM b k := by
  induction k with
  | zero => exact er_lf _
  | succ k ih =>
    rw [nestM, er_eq]
    show Rt.mk _ _ _ _ _ _ _ _ _ [er (nestM b k)] = _
    rw [ih]
    rfl
theorem cn_nest {t : Rt} {b : Bool} {k : Nat} (h : er t = nestM b k) : cnB t 16 512 = (decide (k ≤ 16) && decide (k + 1 ≤ 512)) := by
  rw [cnB_er h]
  unfold cnB
  rw [nest_p, nest_d, nest_ok]
  have h1 : decide (((k + 1 : Nat) : Int) ≤ 512) = decide (k + 1 ≤ 512) := decide_eq_decide.2 (by omega)
  have h2 : decide ((k : Int) ≤ 16) = decide (k ≤ 16) := decide_eq_decide.2 (by omega)
  rw [h1, h2, Bool.and_true, Bool.and_comm]
/-- A variable holds groups within one another. -/
def NInv (w : World) (B : Nat) (b : Bool) (k : Nat) : Prop := ∃ t, CsAt w B t ∧ RxAt w t ∧ Fr (B + 1) t ∧ er t = nestM b k ∧ B < w.heap.size ∧ ∀ o, w.frozen? ⟨B, o, none⟩ = false
set_option maxHeartbeats 4000000 in
theorem nest_step {w : World} {B : Nat} {t : Rt} {b : Bool} {k : Nat} {rA kA : Option Addr} {rc kc : Nat} (hr : t.rv = .slice rA t.rows.length rc) (hk : t.kv = .slice kA t.kids.length kc) (hc : CsAt w B t) (hx : RxAt w t) (hf : Fr (B + 1) t) (he : er t = nestM b k) (hB : B < w.heap.size) (hz : ∀ o, w.frozen? ⟨B, o, none⟩ = false) (o : Obj) (kk : Int) (hkk : (if b && decide (k % 2 = 0) then 6 else 5) = kk) : NInv ((((((((((w.setCell ⟨B, 0, none⟩ (.int .i64 kk)).setCell ⟨B, 1, none⟩ (.string ⟨#[]⟩)).setCell ⟨B, 2, none⟩ (.bool false)).setCell ⟨B, 3, none⟩ (.slice none 0 0)).setCell ⟨B, 4, none⟩ (.int .i64 0)).setCell ⟨B, 5, none⟩ (.int .i64 0)).setCell ⟨B, 6, none⟩ (.bool false)).setCell ⟨B, 7, none⟩ (.slice (some ⟨w.heap.size, 0, none⟩) 1 1)).alloc (.cells #[.int .i64 t.k, .string t.ch, .bool t.nt, .slice rA t.rows.length rc, .int .i64 t.mi, .int .i64 t.ma, .bool t.lz, .slice kA t.kids.length kc] 25)).alloc o) B b (k + 1) := by
  have hkp : Kept (B + 1) w ((((((((w.setCell ⟨B, 0, none⟩ (.int .i64 kk)).setCell ⟨B, 1, none⟩ (.string ⟨#[]⟩)).setCell ⟨B, 2, none⟩ (.bool false)).setCell ⟨B, 3, none⟩ (.slice none 0 0)).setCell ⟨B, 4, none⟩ (.int .i64 0)).setCell ⟨B, 5, none⟩ (.int .i64 0)).setCell ⟨B, 6, none⟩ (.bool false)).setCell ⟨B, 7, none⟩ (.slice (some ⟨w.heap.size, 0, none⟩) 1 1)) := kept8 w (n := B + 1) (g := B) (Nat.lt_succ_self B) _ _ _ _ _ _ _ _ _ _ _ _ _ _ _ _
  have hxx := rx_kept hx hf hkp
  have hsz : ((((((((w.setCell ⟨B, 0, none⟩ (.int .i64 kk)).setCell ⟨B, 1, none⟩ (.string ⟨#[]⟩)).setCell ⟨B, 2, none⟩ (.bool false)).setCell ⟨B, 3, none⟩ (.slice none 0 0)).setCell ⟨B, 4, none⟩ (.int .i64 0)).setCell ⟨B, 5, none⟩ (.int .i64 0)).setCell ⟨B, 6, none⟩ (.bool false)).setCell ⟨B, 7, none⟩ (.slice (some ⟨w.heap.size, 0, none⟩) 1 1)).heap.size = w.heap.size := by simp [World.setCell]
  have hzz : ∀ o', ((((((((w.setCell ⟨B, 0, none⟩ (.int .i64 kk)).setCell ⟨B, 1, none⟩ (.string ⟨#[]⟩)).setCell ⟨B, 2, none⟩ (.bool false)).setCell ⟨B, 3, none⟩ (.slice none 0 0)).setCell ⟨B, 4, none⟩ (.int .i64 0)).setCell ⟨B, 5, none⟩ (.int .i64 0)).setCell ⟨B, 6, none⟩ (.bool false)).setCell ⟨B, 7, none⟩ (.slice (some ⟨w.heap.size, 0, none⟩) 1 1)).frozen? ⟨B, o', none⟩ = false := fun o' => by simp only [World.frozen?_setCell]; exact hz o'
  have d0 := hc 0 _ rfl
  have d1 := hc 1 _ rfl
  have d2 := hc 2 _ rfl
  have d3 := hc 3 _ rfl
  have d4 := hc 4 _ rfl
  have d5 := hc 5 _ rfl
  have d6 := hc 6 _ rfl
  have d7 := hc 7 _ rfl
  have hcs : CsAt ((((((((w.setCell ⟨B, 0, none⟩ (.int .i64 kk)).setCell ⟨B, 1, none⟩ (.string ⟨#[]⟩)).setCell ⟨B, 2, none⟩ (.bool false)).setCell ⟨B, 3, none⟩ (.slice none 0 0)).setCell ⟨B, 4, none⟩ (.int .i64 0)).setCell ⟨B, 5, none⟩ (.int .i64 0)).setCell ⟨B, 6, none⟩ (.bool false)).setCell ⟨B, 7, none⟩ (.slice (some ⟨w.heap.size, 0, none⟩) 1 1)) B (.mk kk ⟨#[]⟩ false (.slice none 0 0) [] 0 0 false (.slice (some ⟨w.heap.size, 0, none⟩) 1 1) [t]) := by
    refine cs_of8 ?_ ?_ ?_ ?_ ?_ ?_ ?_ ?_
    all_goals (simp only [Rt.k, Rt.ch, Rt.nt, Rt.rv, Rt.mi, Rt.ma, Rt.lz, Rt.kv]; go_simp; done)
  generalize ((((((((w.setCell ⟨B, 0, none⟩ (.int .i64 kk)).setCell ⟨B, 1, none⟩ (.string ⟨#[]⟩)).setCell ⟨B, 2, none⟩ (.bool false)).setCell ⟨B, 3, none⟩ (.slice none 0 0)).setCell ⟨B, 4, none⟩ (.int .i64 0)).setCell ⟨B, 5, none⟩ (.int .i64 0)).setCell ⟨B, 6, none⟩ (.bool false)).setCell ⟨B, 7, none⟩ (.slice (some ⟨w.heap.size, 0, none⟩) 1 1)) = W at *
  have hb : Below W.heap.size W ((W.alloc (.cells #[.int .i64 t.k, .string t.ch, .bool t.nt, .slice rA t.rows.length rc, .int .i64 t.mi, .int .i64 t.ma, .bool t.lz, .slice kA t.kids.length kc] 25)).alloc o) := bl_alloc (bl_alloc (bl_refl W) _) _
  have hlit : KsAt ((W.alloc (.cells #[.int .i64 t.k, .string t.ch, .bool t.nt, .slice rA t.rows.length rc, .int .i64 t.mi, .int .i64 t.ma, .bool t.lz, .slice kA t.kids.length kc] 25)).alloc o) (.slice (some ⟨W.heap.size, 0, none⟩) 1 1) [t] := ksat_below (ks_lit (l := [t]) (n := 1) rfl (by decide) _ (by show _ = t.cs ++ []; unfold Rt.cs; rw [hr, hk]; rfl)) (bl_alloc (bl_refl _) _)
  rw [hsz] at hlit
  refine ⟨_, cs_below hcs hb, ?_, ?_, ?_, ?_, fun o' => (hb.frozen (p := ⟨B, o', none⟩) (show B < W.heap.size by omega)).trans (hzz o')⟩
  · exact .mk _ (.inl ⟨rfl, rfl⟩) hlit (fun i hi => by
      have : i = 0 := by simpa [Rt.kids] using hi
      subst this
      exact rx_below hxx hb)
  · exact .mk _ (frv_nil _) (fun x len c e => by injection e with e _ _; injection e with e; subst e; exact hB) (fun x hx => by
      have : x = t := by simpa [Rt.kids] using hx
      subst this
      exact hf)
  · rw [er_eq, nestM]
    show Rt.mk _ _ _ _ _ _ _ _ _ [er t] = _
    rw [he, hkk]
    rfl
  · have := hb.size; omega
theorem nest_bl {a w : World} {B : Nat} (h : Below a.heap.size a w) (hB : a.heap.size ≤ B) (o1 o2 : Obj) (u0 u1 u2 u3 u4 u5 u6 u7 : Value) : Below a.heap.size a (((((((((((w.setCell ⟨B, 0, none⟩ u0).setCell ⟨B, 1, none⟩ u1).setCell ⟨B, 2, none⟩ u2).setCell ⟨B, 3, none⟩ u3).setCell ⟨B, 4, none⟩ u4).setCell ⟨B, 5, none⟩ u5).setCell ⟨B, 6, none⟩ u6).setCell ⟨B, 7, none⟩ u7).alloc o1).alloc o2)) :=
  bl_alloc (bl_alloc (bl8 h hB _ _ _ _ _ _ _ _ _ _ _ _ _ _ _ _) _) _
/-- A sequence of so many characters. -/
def rowM (v : Value) (m : Nat) : Rt := .mk 0 ⟨#[]⟩ false (.slice none 0 0) [] 0 0 false v (List.replicate m lB)
theorem row_p (v : Value) (m : Nat) : pM (rowM v m) = m + 1 := by
  rw [pM_eq]
  show 1 + pL (List.replicate m lB) = _
  have : pL (List.replicate m lB) = m := by
    induction m with
    | zero => rfl
    | succ m ih => rw [List.replicate_succ, pL, ih]; show 1 + m = m + 1; omega
  omega
theorem row_s (v : Value) (m : Nat) : sM (rowM v m) = 1 + 2 * m := by
  rw [sM_eq]
  show 1 + 0 + rwS [] + sL (List.replicate m lB) = _
  have : sL (List.replicate m lB) = 2 * m := by
    induction m with
    | zero => rfl
    | succ m ih => rw [List.replicate_succ, sL, ih]; show 2 + 2 * m = 2 * (m + 1); omega
  rw [this]
  simp [rwS]
theorem row_d (v : Value) (m : Nat) : dM (rowM v m) = 0 := by
  rw [dM_eq]
  show dL (List.replicate m lB) + 0 = 0
  have : dL (List.replicate m lB) = 0 := by
    induction m with
    | zero => rfl
    | succ m ih => rw [List.replicate_succ, dL, ih]; rfl
  rw [this]
theorem row_ok (v : Value) (m : Nat) (h : m ≠ 1) : okM (rowM v m) = true := by
  rw [okM_eq]
  have h1 : okL (List.replicate m lB) = true := by
    clear h
    induction m with
    | zero => rfl
    | succ m ih => rw [List.replicate_succ, okL, ih, ok_lB]; rfl
  have h2 : (List.replicate m lB).all (fun t => seqkB t.k) = true := by
    rw [List.all_eq_true]
    intro x hx
    obtain ⟨_, rfl⟩ := List.mem_replicate.1 hx
    rfl
  show (mfB 0 ⟨#[]⟩ false [] 0 0 false && mkB 0 (List.replicate m lB) && okL (List.replicate m lB)) = true
  rw [h1]
  unfold mkB
  rw [h2]
  simp [mfB, bareB, h]
theorem cn_row (v : Value) (m : Nat) (h : m ≠ 1) : cnB (rowM v m) 16 512 = decide (m + 1 ≤ 512) := by
  unfold cnB
  rw [row_p, row_d, row_ok v m h]
  have h1 : decide (((m + 1 : Nat) : Int) ≤ 512) = decide (m + 1 ≤ 512) := decide_eq_decide.2 (by omega)
  rw [h1]
  simp
theorem lB_snoc (m : Nat) : flatX (List.replicate m lB) ++ lB.cs = flatX (List.replicate (m + 1) lB) := by
  rw [List.replicate_succ', flatX_app]
  simp [flatX]
/-- A variable holds a sequence that grows by one character after the other. -/
structure YInv (w : World) (B : Nat) (v : Value) (m : Nat) : Prop where
  a0 : w.cell? ⟨B, 0, none⟩ = some (.int .i64 0)
  a1 : w.cell? ⟨B, 1, none⟩ = some (.string ⟨#[]⟩)
  a2 : w.cell? ⟨B, 2, none⟩ = some (.bool false)
  a3 : w.cell? ⟨B, 3, none⟩ = some (.slice none 0 0)
  a4 : w.cell? ⟨B, 4, none⟩ = some (.int .i64 0)
  a5 : w.cell? ⟨B, 5, none⟩ = some (.int .i64 0)
  a6 : w.cell? ⟨B, 6, none⟩ = some (.bool false)
  a7 : w.cell? ⟨B, 7, none⟩ = some v
  f : ∀ o, w.frozen? ⟨B, o, none⟩ = false
  own : w.ownsRow (B + 1) 25 8 v m (flatX (List.replicate m lB))
theorem yinv_rx {w : World} {B : Nat} {v : Value} {m : Nat} (h : YInv w B v m) : RxAt w (rowM v m) := by
  refine .mk _ (.inl ⟨rfl, rfl⟩) ?_ (fun i hi => ?_)
  · have := h.own
    have h2 : w.ownsRow (B + 1) 25 8 v (List.replicate m lB).length (flatX (List.replicate m lB)) := by rw [List.length_replicate]; exact this
    exact own_ksat h2
  · have hm : (rowM v m).kids[i] ∈ List.replicate m lB := List.getElem_mem hi
    obtain ⟨_, hm⟩ := List.mem_replicate.1 hm
    rw [hm]
    exact lf_rx _ _
theorem yinv_app {w0 w W w8 : World} {A : Option Addr} {m cc g cap : Nat} (h : YInv w w0.heap.size (.slice A m cc) m) (h0 : Below w0.heap.size w0 w) (hb : Below w.heap.size w W) (hg : W.grownBy w8 (Value.slice A m cc).ownBlock) (ho : w8.ownsRow (w0.heap.size + 1) 25 8 (.slice (some ⟨g, 0, none⟩) (m + 1) cap) (m + 1) (flatX (List.replicate m lB) ++ lB.cs)) :
    w8.frozen? ⟨w0.heap.size, 7, none⟩ = false ∧ w8.cell? ⟨w0.heap.size, 7, none⟩ = some (.slice A m cc) ∧ YInv (w8.setCell ⟨w0.heap.size, 7, none⟩ (.slice (some ⟨g, 0, none⟩) (m + 1) cap)) w0.heap.size (.slice (some ⟨g, 0, none⟩) (m + 1) cap) (m + 1) ∧ Below w0.heap.size w0 (w8.setCell ⟨w0.heap.size, 7, none⟩ (.slice (some ⟨g, 0, none⟩) (m + 1) cap)) := by
  have hne : (Value.slice A m cc).ownBlock ≠ some w0.heap.size := fun e => by have := (h.own.lt _ e).1; omega
  have hB : w0.heap.size < w.heap.size := World.block_lt_of_cell? w ⟨w0.heap.size, 0, none⟩ h.a0
  have hB2 : w0.heap.size < W.heap.size := Nat.lt_of_lt_of_le hB hb.size
  have hblk : w8.heap[w0.heap.size]? = w.heap[w0.heap.size]? := (hg.block _ hB2 (fun e => hne e.symm)).trans (hb.block _ hB)
  have hcell : ∀ o v, w.cell? ⟨w0.heap.size, o, none⟩ = some v → w8.cell? ⟨w0.heap.size, o, none⟩ = some v := fun o v hv => by rw [← hv]; simp only [World.cell?, hblk]
  have hfz : ∀ o, w8.frozen? ⟨w0.heap.size, o, none⟩ = false := fun o => by rw [← h.f o]; simp only [World.frozen?, hblk]
  refine ⟨hfz 7, hcell 7 _ h.a7, ⟨?_, ?_, ?_, ?_, ?_, ?_, ?_, ?_, fun o => by rw [World.frozen?_setCell]; exact hfz o, ?_⟩, ?_⟩
  · have := hcell 0 _ h.a0; go_simp
  · have := hcell 1 _ h.a1; go_simp
  · have := hcell 2 _ h.a2; go_simp
  · have := hcell 3 _ h.a3; go_simp
  · have := hcell 4 _ h.a4; go_simp
  · have := hcell 5 _ h.a5; go_simp
  · have := hcell 6 _ h.a6; go_simp
  · exact World.cell?_setCell_same _ _ _ (hcell 7 _ h.a7)
  · rw [lB_snoc] at ho
    refine ho.kept (grown_set (grown_refl w8 (some w0.heap.size)) 7 _) (.inr ?_)
    intro e
    have := (ho.lt _ e).1
    omega
  · exact bl_set (bl_grown (bl_trans h0 hb) hg (fun k hk => by have := (h.own.lt _ hk).1; omega)) (Nat.le_refl _) _
end Go.Proofs.Ytmfaeonlmfejdaa
