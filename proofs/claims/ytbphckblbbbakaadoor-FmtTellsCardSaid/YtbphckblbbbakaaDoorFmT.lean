/- Contract: a format's reader looks for an end (reader.until). Condition: a text that is not too long. -/
import Derived.Test.YtbphckblbbbakaaDoorFmS
import Derived.BigRegion
namespace Go.Proofs.YtbphckblbbbakaaDoor
open Go.ChangeShapes Go.WideShapes Go.ChangeAt Go.RowKit
attribute [local go_sem ↓] Go.wp_at_zero Go.wp_at_succ
set_option maxRecDepth 100000
set_option linter.unusedVariables false
def UtPost (w : World) (b k size : Nat) (z : Option (List UInt8 × List UInt8) × List UInt8) (e : Ending) (w' : World) : Prop :=
  match z with
  | (none, g) => e = .returned (.tuple #[.string ⟨#[]⟩, .bool false]) ∧ Rdr w w' b k g
  | (some (t, r), g) => e = .returned (.tuple #[.string (mkB t), .bool true]) ∧ Rdr w w' b (size - r.length) g
theorem one_str (W : World) (n : Nat) (c : UInt8) (h : W.cell? ⟨n, 0, none⟩ = some (.int .u8 (c.toNat : Int))) : (convert 43 9 (.slice (some ⟨n, 0, none⟩) 1 1)).run Tryd.prog W = .ok (.string (mkB [c])) W := by
  have hcb := Go.run_convert_bytes_back (P := Tryd.prog) W 43 9 5 ⟨n, 0, none⟩ 1 [c] Tryd.underlying43 Tryd.underlying5 Tryd.underlying9 (fun j hj => by
      obtain rfl : j = 0 := by simp at hj; omega
      simp only [Addr.add]
      simpa using h)
  simp only [List.length_cons, List.length_nil, Nat.zero_add] at hcb
  exact hcb
theorem mk_snoc (g : List UInt8) (c : UInt8) : mkB g ++ mkB [c] = mkB (g ++ [c]) := by
  apply ByteArray.ext; apply Array.ext'; rw [ByteArray.toList_data_append]; rfl
set_option maxHeartbeats 8000000 in
theorem until_any {w : World} {b k : Nat} {s : ByteArray} {g : List UInt8} (h : RdC w b s k g) (hk : k ≤ s.size) (hs : s.size ≤ 1000000) (hg : g.length ≤ 1000000) (en : UInt8) (z : Option (List UInt8 × List UInt8) × List UInt8) (hz : untG en (s.data.toList.drop k) g = z) :
    Calls Tryd.prog 57 #[.pointer (some ⟨b, 0, none⟩), .int .u8 (en.toNat : Int)] w (UtPost w b k s.size z) := by
  have H := hide h
  have hbl := h.lt
  obtain ⟨h0, h1, h4, hf⟩ := h
  obtain ⟨m, hm⟩ : ∃ m, (mkB g).data.toList.contains en = m := ⟨_, rfl⟩
  have hmm : m = true ↔ en ∈ g := by rw [← hm]; exact List.contains_iff_mem
  obtain ⟨i, hi, hic⟩ := idx_any (mkB g) _ en rfl m hm
  have HI := hide hic
  unfold untG at hz
  have hgs := size_mk g
  obtain ⟨G, hG⟩ : ∃ G, mkB g = G := ⟨_, rfl⟩
  rw [hG] at HI h4 hgs
  have HG := hide hG
  clear hic hm hG
  cases m
  · rw [if_neg (fun q => by cases hmm.2 q)] at hz
    obtain ⟨y, hy⟩ : ∃ y, untilF en inB (s.data.toList.drop k) = y := ⟨_, rfl⟩
    rw [hy] at hz
    have HU := hide (spot_until H.out.sp (H.out.froz _) en ⟨#[36, 125, 92, 47, 58]⟩ hk hs y hy)
    obtain ⟨ei, hei⟩ : ∃ ei, (en.toNat : Int) = ei := ⟨_, rfl⟩
    have HEI := hide hei
    rw [hei] at HI HU ⊢
    clear hmm hy hei
    rcases y with _ | ⟨t, r⟩
    · subst hz
      have HCV := fun (W : World) (n : Nat) (q : W.cell? ⟨n, 0, none⟩ = some (.int .u8 ei)) => one_str W n en (by rw [HEI.out]; exact q)
      have hes := size_mk [en]
      obtain ⟨Ez, hEz⟩ : ∃ Ez, mkB [en] = Ez := ⟨_, rfl⟩
      rw [hEz] at HCV hes
      have HEZ := hide hEz
      simp only [List.length_cons, List.length_nil] at hes
      clear hEz
      go_enter Tryd.func57, Tryd.ntmps57
      go_wp2_with fail
      refine (HI.out _).mono ?_
      rintro e w1 ⟨rfl, rfl⟩
      go_wp2_with fail
      refine HU.out.mono ?_
      rintro e w2 ⟨rfl, hm2⟩
      have HR2 := hide (hm2.rd H.out.gone)
      obtain ⟨a0, a1, a4, af⟩ := HR2.out.at H.out
      rw [HG.out] at a4
      have af4 := af 4
      have hb2 : b < w2.heap.size := (HR2.out.at H.out).lt
      clear hm2 h0 h1 h4 hf af
      go_wp2
      go_region
      have hfin : G ++ Ez = mkB (g ++ [en]) := by rw [← HG.out, ← HEZ.out, mk_snoc]
      rw [hfin]
      have HR3 := hide (HR2.out.setG (g ++ [en]))
      clear HCV a0 a1 a4 af4
      go_wp2
      go_ret2
      exact ⟨rfl, HR3.out.bl (bl_drew (bl_alloc (bl_refl _) _))⟩
    · subst hz
      go_enter Tryd.func57, Tryd.ntmps57
      go_wp2_with fail
      refine (HI.out _).mono ?_
      rintro e w1 ⟨rfl, rfl⟩
      go_wp2_with fail
      refine HU.out.mono ?_
      rintro e w2 ⟨rfl, hm2⟩
      have HR2 := hide (hm2.rd H.out.gone)
      clear hm2
      go_wp2
      go_ret2
      exact ⟨rfl, HR2.out⟩
  · rw [if_pos (hmm.1 rfl)] at hz
    subst hz
    obtain ⟨ei, hei⟩ : ∃ ei, (en.toNat : Int) = ei := ⟨_, rfl⟩
    rw [hei] at HI ⊢
    clear hmm hei
    go_enter Tryd.func57, Tryd.ntmps57
    go_wp2_with fail
    refine (HI.out _).mono ?_
    rintro e w1 ⟨rfl, rfl⟩
    go_wp2
    go_ret2
    exact ⟨rfl, rdr_bl (bl_refl w) H.out.pos H.out.gone⟩
end Go.Proofs.YtbphckblbbbakaaDoor
