/- A tree none of whose lists lies in block g: it stays through writes into g. No condition. -/
import Derived.Test.YtcgphknnnjpbkaaRxK
import Derived.Test.YtcgphknnnjpbkaaApp
namespace Go.Proofs.Ytcgphknnnjpbkaa
open Go.ChangeShapes Go.WideShapes Go.ChangeAt Go.RowKit
open SetM
set_option linter.unusedVariables false
def OffV (g : Nat) (v : Value) : Prop := ∀ x len c, v = .slice (some x) len c → 0 < len → x.block ≠ g
inductive Off (g : Nat) : Rt → Prop
  | mk (t : Rt) (hr : OffV g t.rv) (hk : OffV g t.kv) (hs : ∀ x ∈ t.kids, Off g x) : Off g t
theorem off_fr {n g : Nat} {t : Rt} (h : Fr n t) (hg : g < n) : Off g t := by
  induction h with
  | mk t hr hk hs ih => exact .mk t (fun x len c e _ => by have := hr x len c e; omega) (fun x len c e _ => by have := hk x len c e; omega) ih
theorem off_new {w : World} {g : Nat} {t : Rt} (h : RxAt w t) (hg : w.heap.size ≤ g) : Off g t := by
  induction h with
  | mk t hr hk hs ih =>
    refine .mk t (fun x len c e hp => ?_) (fun x len c e hp => ?_) (fun x hx => ?_)
    · obtain ⟨A, c', hv⟩ := rwat_len hr
      rw [e] at hv
      injection hv with _ hl _
      obtain ⟨b, off, c2, hv2, _, _, hlt, _⟩ := rwat_some hr (by omega)
      rw [e] at hv2
      injection hv2 with hx _ _
      injection hx with hx
      subst hx
      show b ≠ g
      omega
    · obtain ⟨A, c', hv⟩ := ksat_len hk
      rw [e] at hv
      injection hv with _ hl _
      obtain ⟨b, off, c2, hv2, _, _, hlt, _⟩ := ksat_some hk (by omega)
      rw [e] at hv2
      injection hv2 with hx _ _
      injection hx with hx
      subst hx
      show b ≠ g
      omega
    · obtain ⟨i, hi, rfl⟩ := List.mem_iff_getElem.1 hx
      exact ih i hi
theorem cell_off {w w' : World} {g : Nat} (hw : w.grownBy w' (some g)) {p : Addr} {v : Value} (hp : p.block ≠ g) (hc : w.cell? p = some v) : w'.cell? p = some v := by
  rw [World.cell?_of_block (w := w) (hw.block p.block (World.block_lt_of_cell? w p hc) (fun e => hp (by cases e; rfl)))]
  exact hc
theorem rwat_off {w w' : World} {g : Nat} {v : Value} {l : List Rw} (h : RwAt w v l) (hf : OffV g v) (hw : w.grownBy w' (some g)) : RwAt w' v l := by
  rcases h with h | ⟨x, c, rfl, h1, h2, h3⟩
  · exact .inl h
  · refine .inr ⟨x, c, rfl, h1, h2, fun i hi => ?_⟩
    have hx := hf x _ _ rfl (by omega)
    exact ⟨cell_off hw (by rw [addr_blk]; exact hx) (h3 i hi).1, cell_off hw (by rw [addr_blk]; exact hx) (h3 i hi).2⟩
theorem ksat_off {w w' : World} {g : Nat} {v : Value} {l : List Rt} (h : KsAt w v l) (hf : OffV g v) (hw : w.grownBy w' (some g)) : KsAt w' v l := by
  rcases h with h | ⟨x, c, rfl, h1, h2, h3⟩
  · exact .inl h
  · refine .inr ⟨x, c, rfl, h1, h2, fun i hi j u hu => ?_⟩
    have hx := hf x _ _ rfl (by omega)
    exact cell_off hw (by rw [addr_blk]; exact hx) (h3 i hi j u hu)
theorem rx_off {w w' : World} {g : Nat} {t : Rt} (h : RxAt w t) (hf : Off g t) (hw : w.grownBy w' (some g)) : RxAt w' t := by
  induction h with
  | mk t hr hk hs ih =>
    obtain ⟨_, f1, f2, f3⟩ := hf
    exact .mk t (rwat_off hr f1 hw) (ksat_off hk f2 hw) (fun i hi => ih i hi (f3 _ (List.getElem_mem hi)))
/-- The parts' own cells as the source of an append. -/
theorem ksat_src {w : World} {A : Option Addr} {c : Nat} {l : List Rt} (h : KsAt w (.slice A l.length c) l) : Src w 8 A l.length (flatX l) := by
  refine ⟨flatX_len l, ?_⟩
  rcases h with ⟨_, rfl⟩ | ⟨x, c', hv, _, _, hc⟩
  · exact .inl rfl
  · injection hv with hv _ _
    refine .inr ⟨x, hv, fun j u hu => ?_⟩
    have hj : j < l.length * 8 := by have := (List.getElem?_eq_some_iff.1 hu).1; rwa [flatX_len] at this
    have hq : j / 8 < l.length := by omega
    have hr8 : j % 8 < (l[j / 8].cs).length := by show j % 8 < 8; omega
    have h1 := flatX_at l (j / 8) hq (j % 8) _ (List.getElem?_eq_getElem hr8)
    have h2 := hc (j / 8) hq (j % 8) _ (List.getElem?_eq_getElem hr8)
    rw [show j / 8 * 8 + j % 8 = j by omega] at h1 h2
    rw [hu] at h1
    rw [Option.some.inj h1]
    exact h2
end Go.Proofs.Ytcgphknnnjpbkaa
