/- Trees of pieces of their own: glued together. Condition: texts that are not too long. -/
import Derived.Test.YtjjbpaaionpjeaaTreeG
namespace Go.Proofs.Ytjjbpaaionpjeaa
open Go.ChangeShapes Go.WideShapes Go.ChangeAt Go.RowKit
attribute [local go_sem ↓] Go.wp_at_zero Go.wp_at_succ
set_option maxRecDepth 100000
theorem keep_cell {R : List Nat} {d r : Nat} {w w' : World} (h : Keeps R d w w') (hr : r ∈ R) (hrd : r ≠ d) {o : Nat} {v : Value} (hc : w.cell? ⟨r, o, none⟩ = some v) : w'.cell? ⟨r, o, none⟩ = some v := by
  rw [World.cell?_of_block (w := w) (h r hr hrd)]; exact hc
theorem live_bl {w0 : World} {S0 R : List Nat} {d g : Nat} {w W : World} {ts : List T} (h : Live w0 S0 R d g w ts) (hb : Below w.heap.size w W) : Live w0 S0 R d g W ts ∧ Keeps R d w W :=
  Live.step (old := []) (new := []) (ts := ts) h (chg_of hb _) (fun t ht => by cases ht) (by simp [bks]) (fun k hk => by simp [bks] at hk)
theorem leaf_text (n : Nat) (x : ByteArray) (p : Int) : (T.node .nil n x p .nil).text = x.data.toList := by simp [T.text]
theorem ps_snoc {t : T} (h : t ≠ .nil) : ∃ A x, t.ps = A ++ [x] := by
  have hne : t.ps ≠ [] := by cases t with
    | nil => exact absurd rfl h
    | node => simp [T.ps]
  exact ⟨t.ps.dropLast, t.ps.getLast hne, (List.dropLast_concat_getLast hne).symm⟩
theorem ps_cons {t : T} (h : t ≠ .nil) : ∃ x B, t.ps = x :: B := by
  cases t with
  | nil => exact absurd rfl h
  | node l n x p r => cases hl : l.ps with
    | nil => exact ⟨_, _, by rw [T.ps, hl]; rfl⟩
    | cons y m => exact ⟨_, _, by rw [T.ps, hl]; rfl⟩
theorem addr_some {t : T} (h : t ≠ .nil) : ∃ n, t.addr = some ⟨n, 0, none⟩ := by
  cases t with
  | nil => exact absurd rfl h
  | node l n x p r => exact ⟨n, rfl⟩
theorem bytes_cell {t : T} {w : World} {n : Nat} (h : t.At w) (hn : t.addr = some ⟨n, 0, none⟩) : w.cell? ⟨n, 0, none⟩ = some (.int .i64 t.text.length) := by
  cases t with
  | nil => cases hn
  | node l m x p r =>
    simp only [T.addr, Option.some.injEq, Addr.mk.injEq] at hn
    obtain ⟨rfl, _, _⟩ := hn
    exact (node_cell h).1
theorem near_one {a a1 : T} {A : List Pc} {x : Pc} (ha : Fit a) (hax : a.ps = A ++ [x]) (e1 : a1.ps = A) (n : Nat) (z : ByteArray) (p : Int) (hz : x.2.1.size ≤ z.size) :
    ∀ u v, a1.ps.getLast? = some u → (T.node .nil n z p .nil).ps.head? = some v → 64 < u.2.1.size + v.2.1.size := by
  intro u v hu hv
  have hla := ha.adj
  rw [hax, adj_app] at hla
  rw [e1] at hu
  rw [leaf_ps] at hv
  simp at hv
  subst hv
  have := hla.2.2 u x hu rfl
  simp only
  omega
theorem near_two {b b2 t1 : T} {A B : List Pc} {y : Pc} {n : Nat} {z : ByteArray} {p : Int} (hb : Fit b) (hby : b.ps = y :: B) (ht : t1.ps = A ++ [(n, z, p)]) (e2 : b2.ps = B) (hz : y.2.1.size ≤ z.size) :
    ∀ u v, t1.ps.getLast? = some u → b2.ps.head? = some v → 64 < u.2.1.size + v.2.1.size := by
  intro u v hu hv
  have hlb := hb.adj
  rw [hby] at hlb
  rw [ht, List.getLast?_append] at hu
  rw [e2] at hv
  simp at hu
  subst hu
  cases B with
  | nil => simp at hv
  | cons c r =>
    simp at hv
    subst hv
    have := hlb.1
    simp only
    omega
theorem far_one {a b : T} {A B : List Pc} {x y : Pc} (hax : a.ps = A ++ [x]) (hby : b.ps = y :: B) (hs : 64 < x.2.1.size + y.2.1.size) :
    ∀ u v, a.ps.getLast? = some u → b.ps.head? = some v → 64 < u.2.1.size + v.2.1.size := by
  intro u v hu hv
  rw [hax, List.getLast?_append] at hu
  rw [hby] at hv
  simp at hu hv
  subst hu hv
  exact hs
def GluePost (w0 : World) (S0 R : List Nat) (d g : Nat) (ts : List T) (s : List UInt8) (w : World) (e : Ending) (w' : World) : Prop := ∃ t : T, e = .returned (.pointer t.addr) ∧ t.text = s ∧ Live w0 S0 R d g w' (t :: ts) ∧ Keeps R d w w'
theorem text_snoc {t : T} {A : List Pc} {x : Pc} (h : t.ps = A ++ [x]) : t.text = txP A ++ x.2.1.data.toList := by rw [T.text_ps, h, txP_app, txP_cons, txP_nil, List.append_nil]
theorem text_cons {t : T} {B : List Pc} {x : Pc} (h : t.ps = x :: B) : t.text = x.2.1.data.toList ++ txP B := by rw [T.text_ps, h, txP_cons]
set_option maxHeartbeats 8000000 in
theorem glue_live {w0 : World} {S0 R : List Nat} {d g : Nat} {w : World} {a b : T} {ts : List T} (h : Live w0 S0 R d g w (a :: b :: ts)) (r : Nat) (hrR : r ∈ R) (hrd : r ≠ d) (hr : w.cell? ⟨r, 0, none⟩ = some (.pointer (some ⟨d, 0, none⟩))) (hlen : a.text.length + b.text.length ≤ 1000000) :
    Calls Try.prog 50 #[.pointer (some ⟨r, 0, none⟩), .pointer a.addr, .pointer b.addr] w (GluePost w0 S0 R d g ts (a.text ++ b.text) w) := by
  by_cases ha : a = .nil
  · subst ha
    have HF : Hid (GluePost w0 S0 R d g ts (T.nil.text ++ b.text) w (.returned (.pointer b.addr)) w) := hide ⟨b, rfl, rfl, h.drop, keeps_refl _ _ _⟩
    clear h hr hlen
    generalize T.nil.text ++ b.text = S at *
    generalize b.addr = bd at *
    simp only [T.addr]
    go_enter Try.func50, Try.ntmps50
    go_wp2_with fail
    refine (rmerge_nil bd _).mono ?_
    rintro e w1 ⟨rfl, rfl⟩
    go_wp2
    go_ret
    exact HF.out
  by_cases hb : b = .nil
  · subst hb
    obtain ⟨na, hna⟩ := addr_some ha
    have HM := hide (merge_live h hlen (fun x y _ hy => by simp [T.ps] at hy))
    rw [hna, show T.nil.addr = none from rfl] at HM
    rw [hna, show T.nil.addr = none from rfl]
    clear h hr hlen hna
    go_enter Try.func50, Try.ntmps50
    go_wp2_with fail
    refine HM.out.mono ?_
    rintro e w1 ⟨t, rfl, hm, hl, hk⟩
    have HF : Hid (GluePost w0 S0 R d g ts (a.text ++ T.nil.text) w (.returned (.pointer t.addr)) w1) := hide ⟨t, rfl, mrg_text hm, hl, hk⟩
    clear hm hl hk HM
    go_wp2
    go_ret
    exact HF.out
  obtain ⟨na, hna⟩ := addr_some ha
  obtain ⟨nb, hnb⟩ := addr_some hb
  obtain ⟨A, x, hax⟩ := ps_snoc ha
  obtain ⟨y, B, hby⟩ := ps_cons hb
  have haA := h.own a (by simp)
  have hbA := h.own b (by simp)
  have hx := haA.2.ok x (by rw [hax]; simp)
  have hy := hbA.2.ok y (by rw [hby]; simp)
  obtain ⟨⟨hx1, hx2⟩, _⟩ := hx
  obtain ⟨⟨hy1, hy2⟩, _⟩ := hy
  have cx := (piece_cell a haA.1 x (by rw [hax]; simp)).1
  have cy := (piece_cell b hbA.1 y (by rw [hby]; simp)).1
  have ca := bytes_cell haA.1 hna
  have HLAST := hide (fun W (hb : Below w.heap.size w W) => last_q a x A W (haA.1.later _ hb) (fun q hq => (haA.2.ok q hq).1.1) hax)
  have HFIRST := hide (fun W (hb : Below w.heap.size w W) => first_q b y B W (hbA.1.later _ hb) (fun q hq => (hbA.2.ok q hq).1.1) hby)
  have H := hide h
  have HFA := hide haA.2
  have HFB := hide hbA.2
  have HAX := hide hax
  have HBY := hide hby
  have HLEN := hide hlen
  have hrb := hr
  have hta := text_snoc hax
  have htb := text_cons hby
  obtain ⟨la, hla⟩ : ∃ la : Nat, a.text.length = la := ⟨_, rfl⟩
  have hla2 : la ≤ 1000000 := by omega
  have hxa : x.2.1.size ≤ la := by
    have := size_len x.2.1
    rw [← hla, hta, List.length_append]; omega
  have HTXA := hide hta
  have HTXB := hide htb
  have HPA := hide (fun (W : World) (hb : Below w.heap.size w W) => part_live (t := a) (ts := b :: ts) (live_bl H.out hb).1 ((la : Int) - (x.2.1.size : Int)) (by omega) (by omega) (by omega))
  rw [hla] at ca
  have HLA := hide hla
  have HMF : 64 < x.2.1.size + y.2.1.size → Hid (∀ W, Below w.heap.size w W → Calls Try.prog 59 #[.pointer (some ⟨na, 0, none⟩), .pointer (some ⟨nb, 0, none⟩)] W fun e w' => GluePost w0 S0 R d g ts (a.text ++ b.text) w e w') := fun hs => hide (fun W hbW => by
    have := merge_live (live_bl H.out hbW).1 HLEN.out (far_one HAX.out HBY.out hs)
    rw [hna, hnb] at this
    exact this.mono fun e w' ⟨t, he, hm, hl, hk⟩ => ⟨t, he, mrg_text hm, hl, (live_bl H.out hbW).2.trans hk⟩)
  rw [hna] at HLAST HPA
  rw [hnb] at HFIRST
  rw [hna, hnb]
  obtain ⟨xb, xz, xp⟩ := x
  obtain ⟨yb, yz, yp⟩ := y
  simp only at hx1 hx2 hy1 hy2 cx cy hxa HPA HMF HLAST HFIRST
  clear h haA hbA hax hby hlen hta htb hla ha hb hrb
  by_cases hs : 64 < xz.size + yz.size
  · have hd : decide ((64 : Int) < (xz.size : Int) + (yz.size : Int)) = true := by simp; omega
    have HM := HMF hs
    clear HMF HPA hs
    go_enter Try.func50, Try.ntmps50
    go_wp2
    go_quiet ((first | (go_at_call 64; exact Calls.quiet_of_same (HLAST.out _ (bl_drewN (bl_refl w) _))) | (go_at_call 63; exact Calls.quiet_of_same (HFIRST.out _ (bl_drewN (bl_refl w) _)))))
    have hbW := bl_drewN (bl_refl w) nq
    go_wp2_with fail
    refine (HM.out _ hbW).mono ?_
    rintro e w1 ⟨t, rfl, htx, hl, hk⟩
    have HF : Hid (GluePost w0 S0 R d g ts (a.text ++ b.text) w (.returned (.pointer t.addr)) w1) := hide ⟨t, rfl, htx, hl, hk⟩
    clear htx hl hk HM
    go_wp2
    go_ret
    exact HF.out
  · have hd : decide ((64 : Int) < (xz.size : Int) + (yz.size : Int)) = false := by simp; omega
    clear HMF
    go_enter Try.func50, Try.ntmps50
    go_wp2
    go_quiet ((first | (go_at_call 64; exact Calls.quiet_of_same (HLAST.out _ (bl_drewN (bl_refl w) _))) | (go_at_call 63; exact Calls.quiet_of_same (HFIRST.out _ (bl_drewN (bl_refl w) _)))))
    have hbW := bl_drewN (bl_refl w) nq
    go_wp2_with fail
    refine (HPA.out _ hbW).mono ?_
    rintro e w1 ⟨a1, a2, rfl, hp1, hl1, hk1⟩
    have hK1 := (live_bl H.out hbW).2.trans hk1
    have HL1 := hide ((hl1.perm (.swap _ _ _)).drop.perm (.swap _ _ _))
    have ea1 := prt_last (x := (xb, xz, xp)) HFA.out HAX.out (by rw [← T.text_ps, HLA.out]; exact hp1)
    have HEA := hide ea1.1
    have HPB := hide (part_live HL1.out (yz.size : Int) (by have := HLEN.out; omega) (by omega) (by omega))
    rw [hnb] at HPB
    clear hp1 hl1 hk1 ea1 HPA
    go_wp2_with fail
    refine HPB.out.mono ?_
    rintro e w2 ⟨b1, b2, rfl, hp2, hl2, hk2⟩
    have hK2 := hK1.trans hk2
    have HL2 := hide hl2.drop
    have eb := prt_first (x := (yb, yz, yp)) HFB.out HBY.out hp2
    have HEB := hide eb.2
    have hr2 := keep_cell hK2 hrR hrd hr
    have hzs : (xz ++ yz).size = xz.size + yz.size := ByteArray.size_append
    have HLF := hide (leaf_live HL2.out r hrd hr2 (xz ++ yz) (by omega) (by omega))
    have hzs2 : xz.size ≤ (xz ++ yz).size ∧ yz.size ≤ (xz ++ yz).size := by omega
    have HZS := hide hzs2
    clear hp2 hl2 hk2 eb HPB HL1 hzs hzs2
    have hA : (txP A).length + xz.size = la := by
      have h1 := congrArg List.length HTXA.out
      rw [List.length_append, HLA.out, len_data] at h1; omega
    have hB : (txP B).length + yz.size = b.text.length := by
      have h1 := congrArg List.length HTXB.out
      rw [List.length_append, len_data] at h1; omega
    have hab : la + b.text.length ≤ 1000000 := by have := HLEN.out; have := HLA.out; omega
    have ht1 : a1.text = txP A := by rw [T.text_ps, HEA.out]
    have ht2 : b2.text = txP B := by rw [T.text_ps, HEB.out]
    have HT1 := hide ht1
    have HT2 := hide ht2
    clear ht1 ht2
    go_wp2_with fail
    refine HLF.out.mono ?_
    rintro e w3 ⟨n, p, rfl, hpp, hl3, hk3⟩
    have hK3 := hK2.trans hk3
    have hl3' : Live w0 S0 R d g w3 (a1 :: .node .nil n (xz ++ yz) p .nil :: b2 :: ts) := hl3.perm (List.perm_middle (l₁ := [T.node .nil n (xz ++ yz) p .nil, b2]) (a := a1) (l₂ := ts))
    have HM1 := hide (merge_live hl3' (by rw [leaf_text, HT1.out, len_data, ByteArray.size_append]; omega) (near_one HFA.out HAX.out HEA.out n (xz ++ yz) p HZS.out.1))
    rw [show (T.node .nil n (xz ++ yz) p .nil).addr = some ⟨n, 0, none⟩ from rfl] at HM1
    clear hl3 hl3' hk3 HLF HL2
    go_wp2_with fail
    refine HM1.out.mono ?_
    rintro e w4 ⟨t1, rfl, hm1, hl4, hk4⟩
    have hK4 := hK3.trans hk4
    have hps1 : t1.ps = A ++ [(n, xz ++ yz, p)] := by rw [hm1.ps, HEA.out, leaf_ps]
    have htx1 : t1.text = txP A ++ (xz ++ yz).data.toList := by rw [mrg_text hm1, leaf_text, HT1.out]
    have HM2 := hide (merge_live hl4 (by rw [htx1, HT2.out, List.length_append, len_data, ByteArray.size_append]; omega) (near_two HFB.out HBY.out hps1 HEB.out HZS.out.2))
    have HTX1 := hide htx1
    clear hm1 hl4 hk4 hps1 htx1 HM1
    go_wp2_with fail
    refine HM2.out.mono ?_
    rintro e w5 ⟨t2, rfl, hm2, hl5, hk5⟩
    have HF : Hid (GluePost w0 S0 R d g ts (a.text ++ b.text) w (.returned (.pointer t2.addr)) w5) := hide ⟨t2, rfl, by rw [mrg_text hm2, HTX1.out, HT2.out, HTXA.out, HTXB.out]; simp, hl5, hK4.trans hk5⟩
    clear hm2 hl5 hk5 HM2
    go_wp2
    go_ret
    exact HF.out
end Go.Proofs.Ytjjbpaaionpjeaa
