/- A group around all: what At answers of it. No condition. -/
import Derived.Test.YtcnliipkfccohaaGreatRnB
namespace Go.Proofs.YtcnliipkfccohaaGreat
open Go.ChangeShapes Go.WideShapes Go.ChangeAt Go.RowKit
open SetM SpanM
set_option maxRecDepth 100000
set_option linter.unusedVariables false
theorem spat_tail {w : World} {A : Option Addr} {c n : Nat} {s : Sp} {l : List Sp} (hn : (s :: l).length = n) (h : SpAt w (.slice A n c) (s :: l)) : SpAt w (.slice (if c = 1 then A else A.map (·.add (1 * 2))) (n - 1) (c - 1)) l := by
  subst hn
  obtain ⟨b, off, c', hv, h1, h2, _, h3⟩ := spat_some h (by simp)
  injection hv with hA _ hc
  subst hA hc
  simp only [List.length_cons, Nat.add_sub_cancel] at h1 h3 ⊢
  by_cases e : c = 1
  · rw [if_pos e]
    have : l = [] := List.eq_nil_of_length_eq_zero (by omega)
    subst this
    exact .inr ⟨⟨b, off, none⟩, c - 1, rfl, by omega, by omega, fun i hi => by simp at hi⟩
  · rw [if_neg e]
    refine .inr ⟨⟨b, off + 2, none⟩, c - 1, by rw [Option.map_some, addr_add], by omega, by omega, fun i hi => ?_⟩
    rw [addr_add, addr_add]
    have h4 := h3 (i + 1) (by omega)
    rw [show off + (i + 1) * 2 = off + 2 + i * 2 by omega] at h4
    exact h4
def grpT (kv : Value) (t : Rt) : Rt := .mk 5 ⟨#[]⟩ false (.slice none 0 0) [] 0 0 false kv [t]
theorem grp_ok {kv : Value} {t : Rt} (h : cnB t 16 512 = true) (hp : pM t ≤ 500) (hd : dM t ≤ 15) : cnB (grpT kv t) 16 512 = true := by
  obtain ⟨h1, h2, h3⟩ := cnB_to h
  refine cnB_of ?_ ?_ ?_
  · rw [pM_eq]; show ((1 + (pM t + 0) : Nat) : Int) ≤ 512; omega
  · rw [dM_eq]; show (((max (dM t) 0) + 1 : Nat) : Int) ≤ 16; omega
  · rw [okM_eq]
    simp [grpT, Rt.k, Rt.ch, Rt.nt, Rt.rows, Rt.mi, Rt.ma, Rt.lz, Rt.kids, mfB, mkB, okL, h3, bareB]
theorem atq_grp {kv : Value} {t : Rt} {fold : Bool} {s : ByteArray} {at_ : Int} {U : Nat} {q q' : An} (hc : cnB t 16 512 = true) (hcg : cnB (grpT kv t) 16 512 = true) (h : AtQ t fold s at_ U q) (g : AtQ (grpT kv t) fold s at_ (U + 1) q') : (q.ok = false ∧ q'.ok = false ∧ q'.n = q.n ∧ q'.f = q.f) ∨ (q.ok = true ∧ q' = { q with p := (q.a, q.b) :: q.p }) := by
  unfold AtQ at h g
  rw [if_neg (by rw [hc]; decide)] at h
  rw [if_neg (by rw [hcg]; decide)] at g
  split at h
  · rename_i h2
    rw [if_pos h2] at g
    obtain ⟨i, r, hi, ho, rfl⟩ := h
    obtain ⟨j, r', hj, ho', rfl⟩ := g
    obtain rfl := ps_one hi hj
    have h5 := on_wrap (x := grpT kv t) (s := (-1, -1)) _ _ rfl rfl ho
    have hg : gM (grpT kv t) = gM t + 1 := by rw [gM_eq]; show 1 + (gM t + 0) = gM t + 1; omega
    rw [hg, List.replicate_succ] at ho'
    obtain rfl := on_det _ _ ho' h5
    cases r with
    | dry => exact .inl ⟨rfl, rfl, rfl, rfl⟩
    | fail f => exact .inl ⟨rfl, rfl, rfl, rfl⟩
    | found j p f => exact .inr ⟨rfl, rfl⟩
  · rename_i h2
    rw [if_neg h2] at g
    rw [h, g]
    exact .inl ⟨rfl, rfl, rfl, rfl⟩
theorem grp_at {w : World} {t : Rt} {g : Nat} (ht : RxAt w t) (hc : ∀ j u, t.cs[j]? = some u → w.cell? ⟨g, j, none⟩ = some u) : RxAt w (grpT (.slice (some ⟨g, 0, none⟩) 1 1) t) := by
  refine .mk _ (.inl ⟨rfl, rfl⟩) (ks1 hc) (fun i hi => ?_)
  have : i = 0 := by have : i < 1 := hi; omega
  subst this
  exact ht
end Go.Proofs.YtcnliipkfccohaaGreat
