/- Trees of pieces of their own: glued together. Condition: texts that are not too long. -/
import Derived.Test.YtjcmbnmejkhcjaaGreatTreeG
namespace Go.Proofs.YtjcmbnmejkhcjaaGreat
open Go.ChangeShapes Go.WideShapes Go.ChangeAt Go.RowKit
attribute [local go_sem ↓] Go.wp_at_zero Go.wp_at_succ
set_option maxRecDepth 100000
theorem keep_cell {R : List Nat} {d r : Nat} {w w' : World} (h : Keeps R d w w') (hr : r ∈ R) (hrd : r ≠ d) {o : Nat} {v : Value} (hc : w.cell? ⟨r, o, none⟩ = some v) : w'.cell? ⟨r, o, none⟩ = some v := by
  rw [World.cell?_of_block (w := w) (h r hr hrd)]; exact hc
theorem live_bl {w0 : World} {S0 R : List Nat} {d g : Nat} {w W : World} {ts : List T} (h : Live w0 S0 R d g w ts) (hb : Below w.heap.size w W) : Live w0 S0 R d g W ts ∧ Keeps R d w W :=
  Live.step (old := []) (new := []) (ts := ts) h (chg_of hb _) (fun t ht => by cases ht) (by simp [bks]) (fun k hk => by simp [bks] at hk)
theorem leaf_text (n : Nat) (x : ByteArray) (p : Int) : (T.node .nil n x p .nil).text = x.data.toList := by simp [T.text]
theorem ps_snoc {t : T} (h : t ≠ .nil) : ∃ A x, t.ps = A ++ [x] := by
  have hne : t.ps ≠ [] := by cases t with
    | nil => exact absurd rfl h
    | node => simp [T.ps]
  exact ⟨t.ps.dropLast, t.ps.getLast hne, (List.dropLast_concat_getLast hne).symm⟩
theorem ps_cons {t : T} (h : t ≠ .nil) : ∃ x B, t.ps = x :: B := by
  cases t with
  | nil => exact absurd rfl h
  | node l n x p r => cases hl : l.ps with
    | nil => exact ⟨_, _, by rw [T.ps, hl]; rfl⟩
    | cons y m => exact ⟨_, _, by rw [T.ps, hl]; rfl⟩
theorem addr_some {t : T} (h : t ≠ .nil) : ∃ n, t.addr = some ⟨n, 0, none⟩ := by
  cases t with
  | nil => exact absurd rfl h
  | node l n x p r => exact ⟨n, rfl⟩
theorem bytes_cell {t : T} {w : World} {n : Nat} (h : t.At w) (hn : t.addr = some ⟨n, 0, none⟩) : w.cell? ⟨n, 0, none⟩ = some (.int .i64 t.text.length) := by
  cases t with
  | nil => cases hn
  | node l m x p r =>
    simp only [T.addr, Option.some.injEq, Addr.mk.injEq] at hn
    obtain ⟨rfl, _, _⟩ := hn
    exact (node_cell h).1
theorem near_one {a a1 : T} {A : List Pc} {x : Pc} (ha : Fit a) (hax : a.ps = A ++ [x]) (e1 : a1.ps = A) (n : Nat) (z : ByteArray) (p : Int) (hz : x.2.1.size ≤ z.size) :
    ∀ u v, a1.ps.getLast? = some u → (T.node .nil n z p .nil).ps.head? = some v → 64 < u.2.1.size + v.2.1.size := by
  intro u v hu hv
  have hla := ha.adj
  rw [hax, adj_app] at hla
  rw [e1] at hu
  rw [leaf_ps] at hv
  simp at hv
  subst hv
  have := hla.2.2 u x hu rfl
  simp only
  omega
theorem near_two {b b2 t1 : T} {A B : List Pc} {y : Pc} {n : Nat} {z : ByteArray} {p : Int} (hb : Fit b) (hby : b.ps = y :: B) (ht : t1.ps = A ++ [(n, z, p)]) (e2 : b2.ps = B) (hz : y.2.1.size ≤ z.size) :
    ∀ u v, t1.ps.getLast? = some u → b2.ps.head? = some v → 64 < u.2.1.size + v.2.1.size := by
  intro u v hu hv
  have hlb := hb.adj
  rw [hby] at hlb
  rw [ht, List.getLast?_append] at hu
  rw [e2] at hv
  simp at hu
  subst hu
  cases B with
  | nil => simp at hv
  | cons c r =>
    simp at hv
    subst hv
    have := hlb.1
    simp only
    omega
theorem far_one {a b : T} {A B : List Pc} {x y : Pc} (hax : a.ps = A ++ [x]) (hby : b.ps = y :: B) (hs : 64 < x.2.1.size + y.2.1.size) :
    ∀ u v, a.ps.getLast? = some u → b.ps.head? = some v → 64 < u.2.1.size + v.2.1.size := by
  intro u v hu hv
  rw [hax, List.getLast?_append] at hu
  rw [hby] at hv
  simp at hu hv
  subst hu hv
  exact hs
def GluePost (w0 : World) (S0 R : List Nat) (d g : Nat) (ts : List T) (s : List UInt8) (w : World) (e : Ending) (w' : World) : Prop := ∃ t : T, e = .returned (.pointer t.addr) ∧ t.text = s ∧ Live w0 S0 R d g w' (t :: ts) ∧ Keeps R d w w'
theorem text_snoc {t : T} {A : List Pc} {x : Pc} (h : t.ps = A ++ [x]) : t.text = txP A ++ x.2.1.data.toList := by rw [T.text_ps, h, txP_app, txP_cons, txP_nil, List.append_nil]
theorem text_cons {t : T} {B : List Pc} {x : Pc} (h : t.ps = x :: B) : t.text = x.2.1.data.toList ++ txP B := by rw [T.text_ps, h, txP_cons]
end Go.Proofs.YtjcmbnmejkhcjaaGreat
