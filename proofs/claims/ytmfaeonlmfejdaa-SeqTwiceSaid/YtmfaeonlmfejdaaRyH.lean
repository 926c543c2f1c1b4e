/- Contract: awake of layer 13. No condition. -/
import Derived.Test.YtmfaeonlmfejdaaRyG
import Derived.Test.YtmfaeonlmfejdaaRyI
import Derived.Deep.RegionHeld3
import Derived.Deep.DrawnRows
import Derived.Deep.Cut
import Derived.Deep.CutBlock
namespace Go.Proofs.Ytmfaeonlmfejdaa
open Go.ChangeShapes Go.WideShapes Go.ChangeAt Go.RowKit
open SetM
attribute [local go_sem ↓] Go.wp_at_zero Go.wp_at_succ
set_option maxRecDepth 100000
set_option linter.unusedVariables false
def lA : Rt := lfR ⟨#[97]⟩
def lB : Rt := lfR ⟨#[98]⟩
def lC : Rt := lfR ⟨#[99]⟩
theorem er_abc {t : Rt} (h : er t = seqX (flK 0 [lB, lC])) : seqX (flK 0 [lA, t]) = kdX 0 [lA, lB, lC] := by
  have h1 : seqX (flK 0 [lB, lC]) = kdX 0 [lB, lC] := by
    unfold flK lB lC
    simp only [List.flatMap_cons, List.flatMap_nil, er_lf]
    rfl
  rw [h1, er_eq] at h
  have hk : t.k = 0 := by injection h
  have hl : t.kids.map er = [lB, lC] := by injection h
  unfold flK lA
  simp only [List.flatMap_cons, List.flatMap_nil, er_lf, hk, hl, if_true]
  rfl
theorem ok_lA : okM lA = true := by
  rw [okM_eq]
  have h1 : properB [97] = true := by simp [properB, contB, firstN]
  simp [lA, lfR, Rt.k, Rt.ch, Rt.nt, Rt.rows, Rt.mi, Rt.ma, Rt.lz, Rt.kids, mfB, mkB, okL, bareB, h1]
theorem ok_lB : okM lB = true := by
  rw [okM_eq]
  have h1 : properB [98] = true := by simp [properB, contB, firstN]
  simp [lB, lfR, Rt.k, Rt.ch, Rt.nt, Rt.rows, Rt.mi, Rt.ma, Rt.lz, Rt.kids, mfB, mkB, okL, bareB, h1]
theorem ok_lC : okM lC = true := by
  rw [okM_eq]
  have h1 : properB [99] = true := by simp [properB, contB, firstN]
  simp [lC, lfR, Rt.k, Rt.ch, Rt.nt, Rt.rows, Rt.mi, Rt.ma, Rt.lz, Rt.kids, mfB, mkB, okL, bareB, h1]
theorem ok_abc : cnB (kdX 0 [lA, lB, lC]) 16 512 = true := by
  have h1 : okM (kdX 0 [lA, lB, lC]) = true := by
    rw [okM_eq]
    simp only [kdX, Rt.k, Rt.ch, Rt.nt, Rt.rows, Rt.mi, Rt.ma, Rt.lz, Rt.kids, okL, ok_lA, ok_lB, ok_lC]
    simp [mfB, mkB, bareB, seqkB, lA, lB, lC, lfR, Rt.k]
  exact cnB_of (by decide) (by decide) h1
theorem no_one (v : Value) : cnB (.mk 0 ⟨#[]⟩ false (.slice none 0 0) [] 0 0 false v [lA]) 16 512 = false := by
  unfold cnB
  rw [okM_eq]
  simp [Rt.k, Rt.kids, mkB]
theorem char13_v (n : UInt8) (w : World) : Calls Try.prog 28 #[.string ⟨#[n]⟩] w fun e w' => e = .returned (.agg #[.int .i64 2, .string ⟨#[n]⟩, .bool false, .slice none 0 0, .int .i64 0, .int .i64 0, .bool false, .slice none 0 0]) ∧ Below w.heap.size w w' := char13_any ⟨#[n]⟩ w
theorem lit_at (w : World) (arr : Array Value) (e : TypeId) (j : Nat) (u : Value) (hu : arr.toList[j]? = some u) : (w.alloc (.cells arr e)).cell? ⟨w.heap.size, j, none⟩ = some u := by
  have := cells_lit w arr e j u hu
  rw [addr_add, Nat.zero_add] at this
  exact this
theorem lit_at2 (w : World) (o : Obj) (arr : Array Value) (e e' : TypeId) (j : Nat) (u : Value) (hu : arr.toList[j]? = some u) : ((w.alloc o).alloc (.cells arr e)).cell? ⟨w.heap.size + 1, j, none⟩ = some u := by
  have := lit_at (w.alloc o) arr e j u hu
  rwa [show (w.alloc o).heap.size = w.heap.size + 1 by simp] at this
theorem lit_at3 (w : World) (o o' : Obj) (arr : Array Value) (e e' e'' : TypeId) (j : Nat) (u : Value) (hu : arr.toList[j]? = some u) : (((w.alloc o).alloc o').alloc (.cells arr e)).cell? ⟨w.heap.size + 1 + 1, j, none⟩ = some u := by
  have := lit_at ((w.alloc o).alloc o') arr e j u hu
  rwa [show ((w.alloc o).alloc o').heap.size = w.heap.size + 1 + 1 by simp] at this
/-- What the three characters' variables hold. -/
def LfAt (w : World) (b : Nat) (n : UInt8) : Prop := ∀ j u, (lfR ⟨#[n]⟩).cs[j]? = some u → w.cell? ⟨b, j, none⟩ = some u
theorem lf_below {w w' : World} {b : Nat} {n : UInt8} (h : LfAt w b n) (hb : Below w.heap.size w w') : LfAt w' b n := fun j u hu => cell_later hb (h j u hu)
theorem lf_8 {w : World} {b : Nat} {n : UInt8} (h : LfAt w b n) : w.cell? ⟨b, 0, none⟩ = some (.int .i64 2) ∧ w.cell? ⟨b, 1, none⟩ = some (.string ⟨#[n]⟩) ∧ w.cell? ⟨b, 2, none⟩ = some (.bool false) ∧ w.cell? ⟨b, 3, none⟩ = some (.slice none 0 0) ∧ w.cell? ⟨b, 4, none⟩ = some (.int .i64 0) ∧ w.cell? ⟨b, 5, none⟩ = some (.int .i64 0) ∧ w.cell? ⟨b, 6, none⟩ = some (.bool false) ∧ w.cell? ⟨b, 7, none⟩ = some (.slice none 0 0) :=
  ⟨h 0 _ rfl, h 1 _ rfl, h 2 _ rfl, h 3 _ rfl, h 4 _ rfl, h 5 _ rfl, h 6 _ rfl, h 7 _ rfl⟩
def CsAt (w : World) (b : Nat) (t : Rt) : Prop := ∀ j u, t.cs[j]? = some u → w.cell? ⟨b, j, none⟩ = some u
theorem cs_below {w w' : World} {b : Nat} {t : Rt} (h : CsAt w b t) (hb : Below w.heap.size w w') : CsAt w' b t := fun j u hu => cell_later hb (h j u hu)
theorem rx_v {w : World} {t : Rt} (h : RxAt w t) : ∃ rA rc kA kc, t.rv = .slice rA t.rows.length rc ∧ t.kv = .slice kA t.kids.length kc ∧ t.v = .agg #[.int .i64 t.k, .string t.ch, .bool t.nt, .slice rA t.rows.length rc, .int .i64 t.mi, .int .i64 t.ma, .bool t.lz, .slice kA t.kids.length kc] := by
  obtain ⟨A, c, hkv⟩ := ksat_len h.ks
  obtain ⟨RA, rc, hrv⟩ := rwat_len h.rows
  exact ⟨RA, rc, A, c, hrv, hkv, by unfold Rt.v Rt.cs; rw [hkv, hrv]⟩
theorem sM_of {a b : Rt} (h : er a = b) : sM a = sM b := by rw [← h, sM_er]
theorem seq_lit {w W : World} (l : List Rt) (hl : l.length = 2) (arr : Array Value) (ha : arr.toList = flatX l) (hx : ∀ x ∈ l, RxAt w x) (hz : sL l ≤ 100000) (hb : Below (w.alloc (.cells arr 25)).heap.size (w.alloc (.cells arr 25)) W) :
    Calls Try.prog 21 #[.slice (some ⟨w.heap.size, 0, none⟩) 2 2] W (SqfPost (seqX (flK 0 l)) W) :=
  seqf_any _ l _ (ksat_below (ks_lit hl (by omega) arr ha) hb) (fun i hi => rx_below (hx _ (List.getElem_mem hi)) (bl_trans (bl_alloc (bl_refl w) _) hb)) hz
theorem seq_bc {w W : World} {n : Nat} (hb : Below (w.alloc (.cells #[.int .i64 2, .string ⟨#[98]⟩, .bool false, .slice none 0 0, .int .i64 0, .int .i64 0, .bool false, .slice none 0 0, .int .i64 2, .string ⟨#[99]⟩, .bool false, .slice none 0 0, .int .i64 0, .int .i64 0, .bool false, .slice none 0 0] 25)).heap.size (w.alloc (.cells #[.int .i64 2, .string ⟨#[98]⟩, .bool false, .slice none 0 0, .int .i64 0, .int .i64 0, .bool false, .slice none 0 0, .int .i64 2, .string ⟨#[99]⟩, .bool false, .slice none 0 0, .int .i64 0, .int .i64 0, .bool false, .slice none 0 0] 25)) W) (hn : n = w.heap.size) : Calls Try.prog 21 #[.slice (some ⟨n, 0, none⟩) 2 2] W (fun e w' => ∃ t', e = .returned t'.v ∧ Below W.heap.size W w' ∧ RxAt w' t' ∧ er t' = seqX (flK 0 [lB, lC]) ∧ Fr W.heap.size t') :=
  hn ▸ seq_lit [lB, lC] rfl _ rfl (fun x hx => by simp at hx; rcases hx with rfl | rfl <;> exact lf_rx _ _) (by decide) hb
theorem seq_at {w W : World} {n : Nat} {t : Rt} {rA kA : Option Addr} {rc kc : Nat} (hb : Below (w.alloc (.cells #[.int .i64 2, .string ⟨#[97]⟩, .bool false, .slice none 0 0, .int .i64 0, .int .i64 0, .bool false, .slice none 0 0, .int .i64 t.k, .string t.ch, .bool t.nt, .slice rA t.rows.length rc, .int .i64 t.mi, .int .i64 t.ma, .bool t.lz, .slice kA t.kids.length kc] 25)).heap.size (w.alloc (.cells #[.int .i64 2, .string ⟨#[97]⟩, .bool false, .slice none 0 0, .int .i64 0, .int .i64 0, .bool false, .slice none 0 0, .int .i64 t.k, .string t.ch, .bool t.nt, .slice rA t.rows.length rc, .int .i64 t.mi, .int .i64 t.ma, .bool t.lz, .slice kA t.kids.length kc] 25)) W) (hn : n = w.heap.size) (h : RxAt w t) (he : er t = seqX (flK 0 [lB, lC])) (hr : t.rv = .slice rA t.rows.length rc) (hk : t.kv = .slice kA t.kids.length kc) : Calls Try.prog 21 #[.slice (some ⟨n, 0, none⟩) 2 2] W (fun e w' => ∃ t', e = .returned t'.v ∧ Below W.heap.size W w' ∧ RxAt w' t' ∧ er t' = kdX 0 [lA, lB, lC] ∧ Fr W.heap.size t') := by
  subst hn
  rw [← er_abc he]
  refine seq_lit [lA, t] rfl _ ?_ (fun x hx => ?_) ?_ hb
  · show _ = lA.cs ++ (t.cs ++ [])
    unfold Rt.cs
    rw [hr, hk]
    rfl
  · simp at hx
    rcases hx with rfl | rfl
    · exact lf_rx _ _
    · exact h
  · have h1 := sM_of he
    have h2 : sM (seqX (flK 0 [lB, lC])) ≤ 10 := by
      have h1 : seqX (flK 0 [lB, lC]) = kdX 0 [lB, lC] := by
        unfold flK lB lC
        simp only [List.flatMap_cons, List.flatMap_nil, er_lf]
        rfl
      rw [h1]; decide
    have h3 : sM lA ≤ 10 := by decide
    simp only [sL]
    omega
theorem cs_of8 {w : World} {b : Nat} {t : Rt} (h0 : w.cell? ⟨b, 0, none⟩ = some (.int .i64 t.k)) (h1 : w.cell? ⟨b, 1, none⟩ = some (.string t.ch)) (h2 : w.cell? ⟨b, 2, none⟩ = some (.bool t.nt)) (h3 : w.cell? ⟨b, 3, none⟩ = some t.rv) (h4 : w.cell? ⟨b, 4, none⟩ = some (.int .i64 t.mi)) (h5 : w.cell? ⟨b, 5, none⟩ = some (.int .i64 t.ma)) (h6 : w.cell? ⟨b, 6, none⟩ = some (.bool t.lz)) (h7 : w.cell? ⟨b, 7, none⟩ = some t.kv) : CsAt w b t := fun j u hu => by
  match j, hu with
  | 0, hu => cases hu; exact h0
  | 1, hu => cases hu; exact h1
  | 2, hu => cases hu; exact h2
  | 3, hu => cases hu; exact h3
  | 4, hu => cases hu; exact h4
  | 5, hu => cases hu; exact h5
  | 6, hu => cases hu; exact h6
  | 7, hu => cases hu; exact h7
  | n + 8, hu => simp [Rt.cs] at hu
/-- A new variable that holds a tree of nothing. -/
structure CsZ (w : World) (n : Nat) : Prop where
  a0 : w.cell? ⟨n, 0, none⟩ = some (.int .i64 0)
  a1 : w.cell? ⟨n, 1, none⟩ = some (.string ⟨#[]⟩)
  a2 : w.cell? ⟨n, 2, none⟩ = some (.bool false)
  a3 : w.cell? ⟨n, 3, none⟩ = some (.slice none 0 0)
  a4 : w.cell? ⟨n, 4, none⟩ = some (.int .i64 0)
  a5 : w.cell? ⟨n, 5, none⟩ = some (.int .i64 0)
  a6 : w.cell? ⟨n, 6, none⟩ = some (.bool false)
  a7 : w.cell? ⟨n, 7, none⟩ = some (.slice none 0 0)
  f : ∀ o, w.frozen? ⟨n, o, none⟩ = false
theorem csz_below {w w' : World} {n : Nat} (h : CsZ w n) (hb : Below w.heap.size w w') : CsZ w' n := by
  obtain ⟨h0, h1, h2, h3, h4, h5, h6, h7, hf⟩ := h
  exact ⟨cell_later hb h0, cell_later hb h1, cell_later hb h2, cell_later hb h3, cell_later hb h4, cell_later hb h5, cell_later hb h6, cell_later hb h7, fun o => (hb.frozen (p := ⟨n, o, none⟩) (show n < w.heap.size from World.block_lt_of_cell? w ⟨n, 0, none⟩ h0)).trans (hf o)⟩
theorem csz_new {V W : World} {n : Nat} (hb : Below (V.alloc (.cells #[.int .i64 0, .string ⟨#[]⟩, .bool false, .slice none 0 0, .int .i64 0, .int .i64 0, .bool false, .slice none 0 0] 25)).heap.size (V.alloc (.cells #[.int .i64 0, .string ⟨#[]⟩, .bool false, .slice none 0 0, .int .i64 0, .int .i64 0, .bool false, .slice none 0 0] 25)) W) (hn : n = V.heap.size) : CsZ W n := by
  subst hn
  refine csz_below ⟨lit_at V _ _ 0 _ rfl, lit_at V _ _ 1 _ rfl, lit_at V _ _ 2 _ rfl, lit_at V _ _ 3 _ rfl, lit_at V _ _ 4 _ rfl, lit_at V _ _ 5 _ rfl, lit_at V _ _ 6 _ rfl, lit_at V _ _ 7 _ rfl, fun o => by go_simp⟩ hb
def AwCut (W1 : World) (v4 : Value) (wx : World) : Prop := ∃ (B : Nat) (t : Rt), v4 = .pointer (some ⟨B, 0, none⟩) ∧ Hid (Below W1.heap.size W1 wx) ∧ Hid (CsAt wx B t) ∧ Hid (RxAt wx t) ∧ Hid (er t = kdX 0 [lA, lB, lC])
theorem aw_alloc {W1 w : World} {t : Rt} {rA kA : Option Addr} {rc kc : Nat} (hb : Below W1.heap.size W1 w) (hx : RxAt w t) (he : er t = kdX 0 [lA, lB, lC]) (hr : t.rv = .slice rA t.rows.length rc) (hk : t.kv = .slice kA t.kids.length kc) : AwCut W1 (.pointer (some ⟨w.heap.size, 0, none⟩)) (w.alloc (.cells #[.int .i64 t.k, .string t.ch, .bool t.nt, .slice rA t.rows.length rc, .int .i64 t.mi, .int .i64 t.ma, .bool t.lz, .slice kA t.kids.length kc] 25)) :=
  ⟨_, t, rfl, hide (bl_alloc hb _), hide (fun j u hu => by unfold Rt.cs at hu; rw [hr, hk] at hu; exact lit_at w _ 25 j u hu), hide (rx_below hx (bl_alloc (bl_refl _) _)), hide he⟩
set_option maxHeartbeats 4000000 in
theorem aw_set {W1 w : World} {t : Rt} {rA kA : Option Addr} {rc kc B N : Nat} (hb : Below W1.heap.size W1 w) (hx : RxAt w t) (he : er t = kdX 0 [lA, lB, lC]) (hr : t.rv = .slice rA t.rows.length rc) (hk : t.kv = .slice kA t.kids.length kc) (hf : Fr N t) (hz : CsZ w B) (h1 : W1.heap.size ≤ B) (h2 : B < N) : AwCut W1 (.pointer (some ⟨B, 0, none⟩)) ((((((((w.setCell ⟨B, 0, none⟩ (.int .i64 t.k)).setCell ⟨B, 1, none⟩ (.string t.ch)).setCell ⟨B, 2, none⟩ (.bool t.nt)).setCell ⟨B, 3, none⟩ (.slice rA t.rows.length rc)).setCell ⟨B, 4, none⟩ (.int .i64 t.mi)).setCell ⟨B, 5, none⟩ (.int .i64 t.ma)).setCell ⟨B, 6, none⟩ (.bool t.lz)).setCell ⟨B, 7, none⟩ (.slice kA t.kids.length kc)) := by
  refine ⟨_, t, rfl, hide (bl8 hb h1 _ _ _ _ _ _ _ _ _ _ _ _ _ _ _ _), ?_, hide (rx_kept hx hf (kept8 _ h2 _ _ _ _ _ _ _ _ _ _ _ _ _ _ _ _)), hide he⟩
  obtain ⟨z0, z1, z2, z3, z4, z5, z6, z7, zf⟩ := hz
  exact hide (cs_of8 (by go_simp) (by go_simp) (by go_simp) (by rw [hr]; go_simp) (by go_simp) (by go_simp) (by go_simp) (by rw [hk]; go_simp))
set_option maxHeartbeats 16000000 in
theorem awake13_any (w : World) : Calls Try.prog 10 #[] w fun e w' => e = .returned (.bool true) ∧ Below w.heap.size w w' := by
  go_enter Try.func10, Try.ntmps10
  go_wp2_with fail
  refine (char13_v 97 _).mono ?_
  rintro e w1 ⟨rfl, hb1⟩
  go_wp2_with fail
  refine (char13_v 98 _).mono ?_
  rintro e w2 ⟨rfl, hb2⟩
  go_wp2_with fail
  refine (char13_v 99 _).mono ?_
  rintro e w3 ⟨rfl, hb3⟩
  have HB3 := hide (bl_trans hb1 (bl_trans hb2 hb3))
  clear hb1 hb2 hb3
  go_upto_region 2 with fail
  have hA : LfAt (((w3.alloc (.cells #[.int .i64 2, .string ⟨#[97]⟩, .bool false, .slice none 0 0, .int .i64 0, .int .i64 0, .bool false, .slice none 0 0] 25)).alloc (.cells #[.int .i64 2, .string ⟨#[98]⟩, .bool false, .slice none 0 0, .int .i64 0, .int .i64 0, .bool false, .slice none 0 0] 25)).alloc (.cells #[.int .i64 2, .string ⟨#[99]⟩, .bool false, .slice none 0 0, .int .i64 0, .int .i64 0, .bool false, .slice none 0 0] 25)) w3.heap.size 97 := fun j u hu => cell_later (bl_alloc (bl_alloc (bl_refl _) _) _) (lit_at w3 _ 25 j u hu)
  have hB : LfAt (((w3.alloc (.cells #[.int .i64 2, .string ⟨#[97]⟩, .bool false, .slice none 0 0, .int .i64 0, .int .i64 0, .bool false, .slice none 0 0] 25)).alloc (.cells #[.int .i64 2, .string ⟨#[98]⟩, .bool false, .slice none 0 0, .int .i64 0, .int .i64 0, .bool false, .slice none 0 0] 25)).alloc (.cells #[.int .i64 2, .string ⟨#[99]⟩, .bool false, .slice none 0 0, .int .i64 0, .int .i64 0, .bool false, .slice none 0 0] 25)) (w3.heap.size + 1) 98 := fun j u hu => cell_later (bl_alloc (bl_refl _) _) (lit_at2 w3 _ _ 25 25 j u hu)
  have hC : LfAt (((w3.alloc (.cells #[.int .i64 2, .string ⟨#[97]⟩, .bool false, .slice none 0 0, .int .i64 0, .int .i64 0, .bool false, .slice none 0 0] 25)).alloc (.cells #[.int .i64 2, .string ⟨#[98]⟩, .bool false, .slice none 0 0, .int .i64 0, .int .i64 0, .bool false, .slice none 0 0] 25)).alloc (.cells #[.int .i64 2, .string ⟨#[99]⟩, .bool false, .slice none 0 0, .int .i64 0, .int .i64 0, .bool false, .slice none 0 0] 25)) (w3.heap.size + 1 + 1) 99 := fun j u hu => lit_at3 w3 _ _ _ 25 25 25 j u hu
  have hbw : Below w.heap.size w (((w3.alloc (.cells #[.int .i64 2, .string ⟨#[97]⟩, .bool false, .slice none 0 0, .int .i64 0, .int .i64 0, .bool false, .slice none 0 0] 25)).alloc (.cells #[.int .i64 2, .string ⟨#[98]⟩, .bool false, .slice none 0 0, .int .i64 0, .int .i64 0, .bool false, .slice none 0 0] 25)).alloc (.cells #[.int .i64 2, .string ⟨#[99]⟩, .bool false, .slice none 0 0, .int .i64 0, .int .i64 0, .bool false, .slice none 0 0] 25)) := bl_alloc (bl_alloc (bl_alloc HB3.out _) _) _
  generalize ((w3.alloc (.cells #[.int .i64 2, .string ⟨#[97]⟩, .bool false, .slice none 0 0, .int .i64 0, .int .i64 0, .bool false, .slice none 0 0] 25)).alloc (.cells #[.int .i64 2, .string ⟨#[98]⟩, .bool false, .slice none 0 0, .int .i64 0, .int .i64 0, .bool false, .slice none 0 0] 25)).alloc (.cells #[.int .i64 2, .string ⟨#[99]⟩, .bool false, .slice none 0 0, .int .i64 0, .int .i64 0, .bool false, .slice none 0 0] 25) = W1 at *
  generalize w3.heap.size + 1 + 1 = n3 at *
  generalize w3.heap.size + 1 = n2 at *
  generalize w3.heap.size = n1 at *
  obtain ⟨a0, a1, a2, a3, a4, a5, a6, a7⟩ := lf_8 hA
  obtain ⟨b0, b1, b2, b3, b4, b5, b6, b7⟩ := lf_8 hB
  obtain ⟨c0, c1, c2, c3, c4, c5, c6, c7⟩ := lf_8 hC
  have HA := hide hA
  have HB := hide hB
  have HBW := hide hbw
  have HSZ := hide (show n1 < W1.heap.size ∧ n2 < W1.heap.size from ⟨World.block_lt_of_cell? _ _ a0, World.block_lt_of_cell? _ _ b0⟩)
  clear hA hB hC hbw HB3
  have HKEEP := hide (show ∀ W, Below W1.heap.size W1 W → (Below W1.heap.size W1 W ∧ W.cell? ⟨n1, 0, none⟩ = some (.int .i64 2) ∧ W.cell? ⟨n1, 1, none⟩ = some (.string ⟨#[97]⟩) ∧ W.cell? ⟨n1, 2, none⟩ = some (.bool false) ∧ W.cell? ⟨n1, 3, none⟩ = some (.slice none 0 0) ∧ W.cell? ⟨n1, 4, none⟩ = some (.int .i64 0) ∧ W.cell? ⟨n1, 5, none⟩ = some (.int .i64 0) ∧ W.cell? ⟨n1, 6, none⟩ = some (.bool false) ∧ W.cell? ⟨n1, 7, none⟩ = some (.slice none 0 0) ∧ W.cell? ⟨n2, 0, none⟩ = some (.int .i64 2) ∧ W.cell? ⟨n2, 1, none⟩ = some (.string ⟨#[98]⟩) ∧ W.cell? ⟨n2, 2, none⟩ = some (.bool false) ∧ W.cell? ⟨n2, 3, none⟩ = some (.slice none 0 0) ∧ W.cell? ⟨n2, 4, none⟩ = some (.int .i64 0) ∧ W.cell? ⟨n2, 5, none⟩ = some (.int .i64 0) ∧ W.cell? ⟨n2, 6, none⟩ = some (.bool false) ∧ W.cell? ⟨n2, 7, none⟩ = some (.slice none 0 0) ∧ W.cell? ⟨n3, 0, none⟩ = some (.int .i64 2) ∧ W.cell? ⟨n3, 1, none⟩ = some (.string ⟨#[99]⟩) ∧ W.cell? ⟨n3, 2, none⟩ = some (.bool false) ∧ W.cell? ⟨n3, 3, none⟩ = some (.slice none 0 0) ∧ W.cell? ⟨n3, 4, none⟩ = some (.int .i64 0) ∧ W.cell? ⟨n3, 5, none⟩ = some (.int .i64 0) ∧ W.cell? ⟨n3, 6, none⟩ = some (.bool false) ∧ W.cell? ⟨n3, 7, none⟩ = some (.slice none 0 0)) from fun W hb => ⟨hb, cell_later hb a0, cell_later hb a1, cell_later hb a2, cell_later hb a3, cell_later hb a4, cell_later hb a5, cell_later hb a6, cell_later hb a7, cell_later hb b0, cell_later hb b1, cell_later hb b2, cell_later hb b3, cell_later hb b4, cell_later hb b5, cell_later hb b6, cell_later hb b7, cell_later hb c0, cell_later hb c1, cell_later hb c2, cell_later hb c3, cell_later hb c4, cell_later hb c5, cell_later hb c6, cell_later hb c7⟩)
  go_cut [4] from 8 to 15 (fun v4 wx => AwCut W1 v4 wx)
  case first =>
    go_region_held3 (fun w' => Below W1.heap.size W1 w' ∧ w'.cell? ⟨n1, 0, none⟩ = some (.int .i64 2) ∧ w'.cell? ⟨n1, 1, none⟩ = some (.string ⟨#[97]⟩) ∧ w'.cell? ⟨n1, 2, none⟩ = some (.bool false) ∧ w'.cell? ⟨n1, 3, none⟩ = some (.slice none 0 0) ∧ w'.cell? ⟨n1, 4, none⟩ = some (.int .i64 0) ∧ w'.cell? ⟨n1, 5, none⟩ = some (.int .i64 0) ∧ w'.cell? ⟨n1, 6, none⟩ = some (.bool false) ∧ w'.cell? ⟨n1, 7, none⟩ = some (.slice none 0 0) ∧ w'.cell? ⟨n2, 0, none⟩ = some (.int .i64 2) ∧ w'.cell? ⟨n2, 1, none⟩ = some (.string ⟨#[98]⟩) ∧ w'.cell? ⟨n2, 2, none⟩ = some (.bool false) ∧ w'.cell? ⟨n2, 3, none⟩ = some (.slice none 0 0) ∧ w'.cell? ⟨n2, 4, none⟩ = some (.int .i64 0) ∧ w'.cell? ⟨n2, 5, none⟩ = some (.int .i64 0) ∧ w'.cell? ⟨n2, 6, none⟩ = some (.bool false) ∧ w'.cell? ⟨n2, 7, none⟩ = some (.slice none 0 0) ∧ w'.cell? ⟨n3, 0, none⟩ = some (.int .i64 2) ∧ w'.cell? ⟨n3, 1, none⟩ = some (.string ⟨#[99]⟩) ∧ w'.cell? ⟨n3, 2, none⟩ = some (.bool false) ∧ w'.cell? ⟨n3, 3, none⟩ = some (.slice none 0 0) ∧ w'.cell? ⟨n3, 4, none⟩ = some (.int .i64 0) ∧ w'.cell? ⟨n3, 5, none⟩ = some (.int .i64 0) ∧ w'.cell? ⟨n3, 6, none⟩ = some (.bool false) ∧ w'.cell? ⟨n3, 7, none⟩ = some (.slice none 0 0)) (first | (refine HKEEP.out _ ?_; (try go_split_ands); (try (with_reducible refine bl8 ?_ ?_ _ _ _ _ _ _ _ _ _ _ _ _ _ _ _ _; rotate_left; (solve | (have hh1 := hbx5.size; omega) | exact Nat.le_refl _ | exact Nat.le_succ _))); repeat (first | with_reducible assumption | with_reducible exact bl_refl _ | with_reducible refine bl_drew ?_ | with_reducible refine bl_alloc ?_ _)))
      (first
        | (go_at_call 21; go_split_ands; with_reducible refine (seq_at (by repeat (first | exact bl_refl _ | refine bl_drew ?_ | refine bl_alloc ?_ _)) (by first | rfl | simp) (rx_below hx5 (by repeat (first | exact bl_refl _ | refine bl_drew ?_ | refine bl_alloc ?_ _))) he5 hr5 hk5).mono ?_; rintro e w6 ⟨t6, he, hb6, hx6, he6, hf6⟩; obtain ⟨rA6, rc6, kA6, kc6, hr6, hk6, hv6⟩ := rx_v hx6; rw [hv6] at he; subst he; (try (refine (show CsZ w6 (w5.heap.size) → _ from fun q => ?_) (csz_new (V := ?_) (bl_trans ?_ hb6) ?_); rotate_left 2; (solve | (repeat (first | exact bl_refl _ | refine bl_drew ?_ | refine bl_alloc ?_ _))); (solve | rfl | simp); obtain ⟨z0, z1, z2, z3, z4, z5, z6, z7, zf⟩ := q)); (try (refine (show CsZ w6 (w5.heap.size + 1) → _ from fun q => ?_) (csz_new (V := ?_) (bl_trans ?_ hb6) ?_); rotate_left 2; (solve | (repeat (first | exact bl_refl _ | refine bl_drew ?_ | refine bl_alloc ?_ _))); (solve | rfl | simp); obtain ⟨z0, z1, z2, z3, z4, z5, z6, z7, zf⟩ := q)); (try (refine (show CsZ w6 (W1.heap.size) → _ from fun q => ?_) (csz_below ⟨y0, y1, y2, y3, y4, y5, y6, y7, yf⟩ (bl_trans ?_ hb6)); rotate_left; (solve | (repeat (first | exact bl_refl _ | refine bl_drew ?_ | refine bl_alloc ?_ _))); obtain ⟨z0, z1, z2, z3, z4, z5, z6, z7, zf⟩ := q)); (try (refine (show CsZ w6 (W1.heap.size + 1) → _ from fun q => ?_) (csz_below ⟨y0, y1, y2, y3, y4, y5, y6, y7, yf⟩ (bl_trans ?_ hb6)); rotate_left; (solve | (repeat (first | exact bl_refl _ | refine bl_drew ?_ | refine bl_alloc ?_ _))); obtain ⟨z0, z1, z2, z3, z4, z5, z6, z7, zf⟩ := q)); have hbx6 : Below W1.heap.size W1 w6 := bl_trans (by repeat (first | assumption | exact bl_refl _ | refine bl_drew ?_ | refine bl_alloc ?_ _)) hb6)
        | (go_at_call 21; go_split_ands; with_reducible refine (seq_bc (by repeat (first | exact bl_refl _ | refine bl_drew ?_ | refine bl_alloc ?_ _)) (by first | rfl | simp)).mono ?_; rintro e w5 ⟨t5, he, hb5, hx5, he5, hf5⟩; obtain ⟨rA5, rc5, kA5, kc5, hr5, hk5, hv5⟩ := rx_v hx5; rw [hv5] at he; subst he; (try (refine (show CsZ w5 (W1.heap.size) → _ from fun q => ?_) (csz_new (V := ?_) (bl_trans ?_ hb5) ?_); rotate_left 2; (solve | (repeat (first | exact bl_refl _ | refine bl_drew ?_ | refine bl_alloc ?_ _))); (solve | rfl | simp); obtain ⟨y0, y1, y2, y3, y4, y5, y6, y7, yf⟩ := q)); (try (refine (show CsZ w5 (W1.heap.size + 1) → _ from fun q => ?_) (csz_new (V := ?_) (bl_trans ?_ hb5) ?_); rotate_left 2; (solve | (repeat (first | exact bl_refl _ | refine bl_drew ?_ | refine bl_alloc ?_ _))); (solve | rfl | simp); obtain ⟨y0, y1, y2, y3, y4, y5, y6, y7, yf⟩ := q)); have hbx5 : Below W1.heap.size W1 w5 := bl_trans (by repeat (first | assumption | exact bl_refl _ | refine bl_drew ?_ | refine bl_alloc ?_ _)) hb5))
    all_goals
      go_wp2_with fail
      go_meet
      first
        | (with_reducible exact aw_alloc hbx6 hx6 he6 hr6 hk6)
        | (with_reducible refine aw_set hbx6 hx6 he6 hr6 hk6 hf6 ⟨z0, z1, z2, z3, z4, z5, z6, z7, zf⟩ ?_ ?_
           · first | (have hh1 := hbx5.size; omega) | exact Nat.le_refl _ | exact Nat.le_succ _
           · first | (simp; done) | (have hh1 := hb5.size; have hh2 := hb6.size; simp at hh1 hh2 ⊢; omega))
  case rest =>
    obtain ⟨B, t, rfl, HBX, HCS, HRX, HE⟩ := hcut
    clear a0 a1 a2 a3 a4 a5 a6 a7 b0 b1 b2 b3 b4 b5 b6 b7 c0 c1 c2 c3 c4 c5 c6 c7 HKEEP HSZ
    rename World => wx
    obtain ⟨rA, rc, kA, kc, hr, hk, hv⟩ := rx_v HRX.out
    have he := HE.out
    rw [er_eq] at he
    have hk0 : t.k = 0 := by injection he
    have hl3 : t.kids.length = 3 := by
      have : t.kids.map er = [lA, lB, lC] := by injection he
      rw [← List.length_map (f := er), this]; rfl
    have hpm : pM t = 4 := by rw [← pM_er, HE.out]; rfl
    have hcn : cnB t 16 512 = true := (cnB_er HE.out 16 512).trans ok_abc
    have hsm : sM t ≤ 100000 := by rw [sM_of HE.out]; decide
    rw [hk0, hl3] at hv
    rw [hl3] at hk
    have FX := hide (fun W (hb : Below wx.heap.size wx W) j u (hu : ([.int .i64 0, .string t.ch, .bool t.nt, .slice rA t.rows.length rc, .int .i64 t.mi, .int .i64 t.ma, .bool t.lz, .slice kA 3 kc] : List Value)[j]? = some u) => (show W.cell? ⟨B, j, none⟩ = some u from cell_later hb (HCS.out j u (by unfold Rt.cs; rw [hk0, hr, hk]; exact hu))))
    have HM := hide (fun W (hb : Below wx.heap.size wx W) => (show Calls Try.prog 11 #[.agg #[.int .i64 0, .string t.ch, .bool t.nt, .slice rA t.rows.length rc, .int .i64 t.mi, .int .i64 t.ma, .bool t.lz, .slice kA 3 kc]] W (fun e w' => e = .returned (.bool true) ∧ Below W.heap.size W w') from by
      have := rxmay_any HRX.out hsm W hb
      rw [hv, hcn] at this
      exact this))
    have HP := hide (fun W (hb : Below wx.heap.size wx W) => (show Calls Try.prog 13 #[.agg #[.int .i64 0, .string t.ch, .bool t.nt, .slice rA t.rows.length rc, .int .i64 t.mi, .int .i64 t.ma, .bool t.lz, .slice kA 3 kc]] W (fun e w' => e = .returned (.int .i64 4) ∧ Below W.heap.size W w') from by
      have := parts_any HRX.out (by rw [hpm]; decide) W hb
      rw [hv, hpm] at this
      exact this))
    have HS := hide (fun W (hb : Below wx.heap.size wx W) => (show Calls Try.prog 19 #[.agg #[.int .i64 0, .string t.ch, .bool t.nt, .slice rA t.rows.length rc, .int .i64 t.mi, .int .i64 t.ma, .bool t.lz, .slice kA 3 kc], .agg #[.int .i64 0, .string t.ch, .bool t.nt, .slice rA t.rows.length rc, .int .i64 t.mi, .int .i64 t.ma, .bool t.lz, .slice kA 3 kc]] W (fun e w' => e = .returned (.bool true) ∧ Below W.heap.size W w') from by
      have := same_any HRX.out HRX.out W hb
      rw [hv, sameM_refl] at this
      exact this))
    have HN := hide (fun (W : World) => (show Calls Try.prog 19 #[.agg #[.int .i64 2, .string ⟨#[97]⟩, .bool false, .slice none 0 0, .int .i64 0, .int .i64 0, .bool false, .slice none 0 0], .agg #[.int .i64 2, .string ⟨#[98]⟩, .bool false, .slice none 0 0, .int .i64 0, .int .i64 0, .bool false, .slice none 0 0]] W (fun e w' => e = .returned (.bool false) ∧ Below W.heap.size W w') from by
      have h0 : sameM lA lB = false := by decide
      have := same_any (w0 := W) (lf_rx W ⟨#[97]⟩) (lf_rx W ⟨#[98]⟩) W (bl_refl W)
      rw [show sameM (lfR ⟨#[97]⟩) (lfR ⟨#[98]⟩) = false from h0] at this
      exact this))
    have HO := hide (fun (W : World) => (show Calls Try.prog 11 #[.agg #[.int .i64 0, .string ⟨#[]⟩, .bool false, .slice none 0 0, .int .i64 0, .int .i64 0, .bool false, .slice (some ⟨W.heap.size, 0, none⟩) 1 1]] (W.alloc (.cells #[.int .i64 2, .string ⟨#[97]⟩, .bool false, .slice none 0 0, .int .i64 0, .int .i64 0, .bool false, .slice none 0 0] 25)) (fun e w' => e = .returned (.bool false) ∧ Below (W.alloc (.cells #[.int .i64 2, .string ⟨#[97]⟩, .bool false, .slice none 0 0, .int .i64 0, .int .i64 0, .bool false, .slice none 0 0] 25)).heap.size (W.alloc (.cells #[.int .i64 2, .string ⟨#[97]⟩, .bool false, .slice none 0 0, .int .i64 0, .int .i64 0, .bool false, .slice none 0 0] 25)) w') from by
      have hx : RxAt (W.alloc (.cells #[.int .i64 2, .string ⟨#[97]⟩, .bool false, .slice none 0 0, .int .i64 0, .int .i64 0, .bool false, .slice none 0 0] 25)) (.mk 0 ⟨#[]⟩ false (.slice none 0 0) [] 0 0 false (.slice (some ⟨W.heap.size, 0, none⟩) 1 1) [lA]) := .mk _ (.inl ⟨rfl, rfl⟩) (ks_lit (l := [lA]) (n := 1) rfl (by decide) _ rfl) (fun i hi => by
        have : i = 0 := by simpa [Rt.kids] using hi
        subst this
        exact lf_rx _ _)
      have := rxmay_any hx (by rw [sM_eq]; simp only [Rt.ch, Rt.rows, Rt.kids, sL]; decide) _ (bl_refl _)
      rw [no_one] at this
      exact this))
    clear hr hk hv he hk0 hl3 hpm hcn hsm
    have k0 : wx.cell? ⟨B, 0, none⟩ = some (.int .i64 0) := FX.out wx (bl_refl wx) 0 _ rfl
    have k1 : wx.cell? ⟨B, 1, none⟩ = some (.string t.ch) := FX.out wx (bl_refl wx) 1 _ rfl
    have k2 : wx.cell? ⟨B, 2, none⟩ = some (.bool t.nt) := FX.out wx (bl_refl wx) 2 _ rfl
    have k3 : wx.cell? ⟨B, 3, none⟩ = some (.slice rA t.rows.length rc) := FX.out wx (bl_refl wx) 3 _ rfl
    have k4 : wx.cell? ⟨B, 4, none⟩ = some (.int .i64 t.mi) := FX.out wx (bl_refl wx) 4 _ rfl
    have k5 : wx.cell? ⟨B, 5, none⟩ = some (.int .i64 t.ma) := FX.out wx (bl_refl wx) 5 _ rfl
    have k6 : wx.cell? ⟨B, 6, none⟩ = some (.bool t.lz) := FX.out wx (bl_refl wx) 6 _ rfl
    have k7 : wx.cell? ⟨B, 7, none⟩ = some (.slice kA 3 kc) := FX.out wx (bl_refl wx) 7 _ rfl
    go_wp2_with fail
    refine (HM.out _ (bl_refl _)).mono ?_
    rintro e w4 ⟨rfl, hb4⟩
    have HB4 := hide hb4
    clear hb4 k0 k1 k2 k3 k4 k5 k6 k7
    obtain ⟨a0, a1, a2, a3, a4, a5, a6, a7⟩ := lf_8 (lf_below HA.out (bl_trans HBX.out HB4.out))
    go_wp2_with fail
    refine (HO.out _).mono ?_
    rintro e w5 ⟨rfl, hb5⟩
    have HB5 := hide (bl_trans (bl_alloc HB4.out _) hb5)
    clear hb5 a0 a1 a2 a3 a4 a5 a6 a7
    have k0 : w5.cell? ⟨B, 0, none⟩ = some (.int .i64 0) := FX.out w5 HB5.out 0 _ rfl
    have k1 : w5.cell? ⟨B, 1, none⟩ = some (.string t.ch) := FX.out w5 HB5.out 1 _ rfl
    have k2 : w5.cell? ⟨B, 2, none⟩ = some (.bool t.nt) := FX.out w5 HB5.out 2 _ rfl
    have k3 : w5.cell? ⟨B, 3, none⟩ = some (.slice rA t.rows.length rc) := FX.out w5 HB5.out 3 _ rfl
    have k4 : w5.cell? ⟨B, 4, none⟩ = some (.int .i64 t.mi) := FX.out w5 HB5.out 4 _ rfl
    have k5 : w5.cell? ⟨B, 5, none⟩ = some (.int .i64 t.ma) := FX.out w5 HB5.out 5 _ rfl
    have k6 : w5.cell? ⟨B, 6, none⟩ = some (.bool t.lz) := FX.out w5 HB5.out 6 _ rfl
    have k7 : w5.cell? ⟨B, 7, none⟩ = some (.slice kA 3 kc) := FX.out w5 HB5.out 7 _ rfl
    go_wp2_with fail
    refine (HP.out _ HB5.out).mono ?_
    rintro e w6 ⟨rfl, hb6⟩
    have HB6 := hide (bl_trans HB5.out hb6)
    clear hb6 k0 k1 k2 k3 k4 k5 k6 k7
    have k0 : w6.cell? ⟨B, 0, none⟩ = some (.int .i64 0) := FX.out w6 HB6.out 0 _ rfl
    have k1 : w6.cell? ⟨B, 1, none⟩ = some (.string t.ch) := FX.out w6 HB6.out 1 _ rfl
    have k2 : w6.cell? ⟨B, 2, none⟩ = some (.bool t.nt) := FX.out w6 HB6.out 2 _ rfl
    have k3 : w6.cell? ⟨B, 3, none⟩ = some (.slice rA t.rows.length rc) := FX.out w6 HB6.out 3 _ rfl
    have k4 : w6.cell? ⟨B, 4, none⟩ = some (.int .i64 t.mi) := FX.out w6 HB6.out 4 _ rfl
    have k5 : w6.cell? ⟨B, 5, none⟩ = some (.int .i64 t.ma) := FX.out w6 HB6.out 5 _ rfl
    have k6 : w6.cell? ⟨B, 6, none⟩ = some (.bool t.lz) := FX.out w6 HB6.out 6 _ rfl
    have k7 : w6.cell? ⟨B, 7, none⟩ = some (.slice kA 3 kc) := FX.out w6 HB6.out 7 _ rfl
    go_wp2_with fail
    refine (HS.out _ HB6.out).mono ?_
    rintro e w7 ⟨rfl, hb7⟩
    have HB7 := hide (bl_trans HB6.out hb7)
    clear hb7 k0 k1 k2 k3 k4 k5 k6 k7
    obtain ⟨a0, a1, a2, a3, a4, a5, a6, a7⟩ := lf_8 (lf_below HA.out (bl_trans HBX.out HB7.out))
    obtain ⟨b0, b1, b2, b3, b4, b5, b6, b7⟩ := lf_8 (lf_below HB.out (bl_trans HBX.out HB7.out))
    go_wp2_with fail
    refine (HN.out _).mono ?_
    rintro e w8 ⟨rfl, hb8⟩
    have HB8 := hide (bl_trans HBW.out (bl_trans HBX.out (bl_trans HB7.out hb8)))
    clear hb8
    go_wp2
    go_ret
    exact ⟨rfl, HB8.out⟩
end Go.Proofs.Ytmfaeonlmfejdaa
