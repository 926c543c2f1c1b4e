/- Contracts of package dice: how a dice lies in memory, what it tells. -/
import Derived.Test.YtjcmbnmejkhcjaaGreatRows
import Derived.Test.YtjcmbnmejkhcjaaGreatLater
import Derived.Test.YtjcmbnmejkhcjaaGreatOwn
import Derived.RegionTactic
import Derived.BigRegion
import Derived.ChangeAlike
import Derived.OwnWalk
namespace Go.Proofs.YtjcmbnmejkhcjaaGreat
open Go.ChangeShapes Go.WideShapes Go.ChangeAt Go.RowKit

/-- The number told next. -/
def nxt : List Int → Int → Int
  | [], last => (last * 1664525 + 1013904223) % 4294967296
  | x :: _, _ => x
/-- A dice in block b, its numbers that are left in block g. -/
def DiceAt (w : World) (b g : Nat) (rest : List Int) (last : Int) : Prop :=
  (0 ≤ last ∧ last < 4294967296) ∧ (∀ x ∈ rest, 0 ≤ x ∧ x < 4294967296) ∧ ∃ A cap, w.cell? ⟨b, 0, none⟩ = some (.slice A rest.length cap) ∧ w.cell? ⟨b, 1, none⟩ = some (.int .u32 last) ∧ w.frozen? ⟨b, 0, none⟩ = false ∧ w.frozen? ⟨b, 1, none⟩ = false ∧
    rest.length ≤ cap ∧ cap ≤ maxLen ∧ (rest = [] ∨ ∃ off, A = some ⟨g, off, none⟩ ∧ g ≠ b ∧ ∀ j, j < rest.length → w.cell? ⟨g, off + j, none⟩ = some (.int .u32 (rest.getD j 0)))
theorem nxt_bd {rest : List Int} {last : Int} (h : ∀ x ∈ rest, 0 ≤ x ∧ x < 4294967296) : 0 ≤ nxt rest last ∧ nxt rest last < 4294967296 := by
  cases rest with
  | nil => simp only [nxt]; omega
  | cons x r => exact h x (by simp)
/-- A dice is where it was while its two blocks are as they were. -/
theorem DiceAt.kept {w w' : World} {b g : Nat} {rest : List Int} {last : Int} (h : DiceAt w b g rest last) (hb : w'.heap[b]? = w.heap[b]?) (hg : w'.heap[g]? = w.heap[g]?) : DiceAt w' b g rest last := by
  obtain ⟨h1, h2, A, cap, c0, c1, f0, f1, h3, h4, h5⟩ := h
  refine ⟨h1, h2, A, cap, ?_, ?_, ?_, ?_, h3, h4, ?_⟩
  · rw [World.cell?_of_block (w := w) hb]; exact c0
  · rw [World.cell?_of_block (w := w) hb]; exact c1
  · rw [World.frozen?_of_block (w := w) hb]; exact f0
  · rw [World.frozen?_of_block (w := w) hb]; exact f1
  · rcases h5 with h5 | ⟨off, hA, hne, hc⟩
    · exact .inl h5
    · exact .inr ⟨off, hA, hne, fun j hj => by rw [World.cell?_of_block (w := w) hg]; exact hc j hj⟩

theorem info_u32 : (Tryz.prog.info? 46).map (fun i => (i.zero, i.size, i.bytes)) = some (some (.int .u32 0), 1, 4) := by kernel_rfl
set_option maxRecDepth 100000 in
set_option maxHeartbeats 1000000 in
theorem clone32_some (w : World) (ad : Addr) (n cap : Nat) (zs : List Int) (hz : zs.length = n) (hn : n ≤ 1000000)
   (hc : ∀ j, j < n → w.cell? (ad.add j) = some (.int .u32 (zs.getD j 0))) :
    Calls Tryz.prog 24 #[.slice (some ad) n cap] w fun e w' => ∃ v, e = .returned v ∧ w'.ownsRow w.heap.size 46 1 v n (zs.map (.int .u32)) ∧ Below w.heap.size w w' := by
  obtain ⟨i0, hi0, hz0, hz1, hz2⟩ := info_parts info_u32
  have hnil := fun (W : World) => Lib.run_eql_slice_nil (P := Tryz.prog) W 65 46 (some ad) n cap 0 0 Tryz.underlying65
  go_enter Tryz.func24, Tryz.ntmps24
  have hm0 := World.ownsRow_made (base := w.heap.size) (e := 46) (size := 1) w #[] 0 (Nat.le_refl _) (by simp [maxLen]) (by simp)
  have k1 : (zs.map (Value.int .u32)).length = n * 1 := by simp [hz]
  have k2 : ∀ j u, (zs.map (Value.int .u32))[j]? = some u → (w.alloc (.cells #[] 46)).cell? (ad.add j) = some u := by
    intro j u hu
    rw [List.getElem?_map] at hu
    simp only [Option.map_eq_some_iff] at hu
    obtain ⟨x, hx, rfl⟩ := hu
    have hj : j < zs.length := (List.getElem?_eq_some_iff.1 hx).1
    have h1 := hc j (by omega)
    have h2 : zs.getD j 0 = x := by simp [List.getD, hx]
    rw [h2] at h1
    rw [← h1]
    exact World.cell?_of_block (Below.heap_alloc w _ _ (World.block_lt_of_cell? w _ h1))
  have k3 : ∀ u ∈ zs.map (Value.int .u32), u.oneCell' = true := by intro u hu; simp only [List.mem_map] at hu; obtain ⟨x, _, rfl⟩ := hu; rfl
  have K1 := hide k1
  have K2 := hide k2
  have K3 := hide k3
  clear k1 k2 k3 hc
  go_wp2_with (at_builtin; (refine wpList_append_own _ rfl _ _ 65 rfl w.heap.size 46 i0 (.int .u32 0) 1 4 Tryz.underlying65 hi0 hz0 hz1 hz2 rfl (by decide) _ 0 [] rfl hm0 ad n cap (zs.map (.int .u32)) rfl K1.out K2.out K3.out (by simp only [maxLen]; omega) (by omega) (by simp) ?_); intro v' w1 hown1 hg1 _)
  go_ret
  refine ⟨v', rfl, by simpa using hown1, ?_⟩
  exact (bl_alloc (bl_refl w) _).grown hg1 (by simp) (fun k hk => by have : w.heap.size = k := Option.some.inj hk; omega)
theorem clone32_nil (w : World) :
    Calls Tryz.prog 24 #[.slice none 0 0] w fun e w' => e = .returned (.slice none 0 0) ∧ w = w' := by
  have hnil := fun (W : World) => Lib.run_eql_slice_nil (P := Tryz.prog) W 65 46 none 0 0 0 0 Tryz.underlying65
  go_enter Tryz.func24, Tryz.ntmps24
  go_wp2
  go_ret
  exact ⟨rfl, rfl⟩
theorem diceAt_new {w w1 : World} {v : Value} {n : Nat} {zs : List Int} (hb : ∀ x ∈ zs, 0 ≤ x ∧ x < 4294967296) (hz : zs.length = n) (h : w1.ownsRow w.heap.size 46 1 v n (zs.map (.int .u32))) (hbel : Below w.heap.size w w1) :
    ∃ g, w.heap.size ≤ g ∧ g < (w1.alloc (.cells #[v, .int .u32 0] 68)).heap.size ∧ DiceAt (w1.alloc (.cells #[v, .int .u32 0] 68)) w1.heap.size g zs 0 := by
  obtain ⟨h1, h2⟩ := h
  rcases h2 with ⟨rfl, rfl⟩ | ⟨g, cap, cur, rfl, hg, hh, hnc, hcm, hsz, htake⟩
  · obtain rfl : zs = [] := List.eq_nil_of_length_eq_zero hz
    exact ⟨w1.heap.size, hbel.size, by simp, ⟨by omega, by simp, none, 0, by go_simp, by go_simp, by go_simp, by go_simp, by simp, by simp [maxLen], .inl rfl⟩⟩
  · have hlt : g < w1.heap.size := (Array.getElem?_eq_some_iff.1 hh).1
    refine ⟨g, hg, by simp; omega, ⟨by omega, hb, some ⟨g, 0, none⟩, cap, by rw [hz]; go_simp, by go_simp, by go_simp, by go_simp, by omega, hcm, .inr ⟨0, rfl, by omega, fun j hj => ?_⟩⟩⟩
    have hown : w1.ownsRow w.heap.size 46 1 (.slice (some ⟨g, 0, none⟩) n cap) n (zs.map (.int .u32)) := ⟨h1, .inr ⟨g, cap, cur, rfl, hg, hh, hnc, hcm, hsz, htake⟩⟩
    have hc := hown.cellAt j (by omega)
    rw [World.cell?_of_block (w := w1) (Below.heap_alloc w1 _ _ (by simpa using hlt))]
    rw [Nat.zero_add, hc, List.getElem?_map, List.getElem?_eq_getElem hj]
    simp [List.getD, List.getElem?_eq_getElem hj]
set_option maxRecDepth 100000 in
set_option maxHeartbeats 1000000 in
theorem dnew_some (w : World) (ad : Addr) (n cap : Nat) (zs : List Int) (hz : zs.length = n) (hn : n ≤ 1000000) (hbd : ∀ x ∈ zs, 0 ≤ x ∧ x < 4294967296)
   (hc : ∀ j, j < n → w.cell? (ad.add j) = some (.int .u32 (zs.getD j 0))) :
    Calls Tryz.prog 12 #[.slice (some ad) n cap] w fun e w' => ∃ b g, e = .returned (.pointer (some ⟨b, 0, none⟩)) ∧ w.heap.size ≤ b ∧ w.heap.size ≤ g ∧ b < w'.heap.size ∧ g < w'.heap.size ∧ DiceAt w' b g zs 0 ∧ Below w.heap.size w w' := by
  go_enter Tryz.func12, Tryz.ntmps12
  go_wp2_with fail
  refine (clone32_some w ad n cap zs hz hn hc).mono ?_
  rintro e w1 ⟨v, rfl, hown, hbel⟩
  obtain ⟨g, hg, hg2, hd⟩ := diceAt_new hbd hz hown hbel
  obtain ⟨A, c, rfl⟩ := own_slice hown
  have HD := hide hd
  clear hd
  go_wp2
  go_ret
  exact ⟨w1.heap.size, g, rfl, hbel.size, hg, by simp, hg2, HD.out, bl_alloc hbel _⟩
set_option maxRecDepth 100000 in
set_option maxHeartbeats 1000000 in
theorem dnew_nil (w : World) :
    Calls Tryz.prog 12 #[.slice none 0 0] w fun e w' => ∃ b g, e = .returned (.pointer (some ⟨b, 0, none⟩)) ∧ w.heap.size ≤ b ∧ w.heap.size ≤ g ∧ b < w'.heap.size ∧ g < w'.heap.size ∧ DiceAt w' b g [] 0 ∧ Below w.heap.size w w' := by
  go_enter Tryz.func12, Tryz.ntmps12
  go_wp2_with fail
  refine (clone32_nil w).mono ?_
  rintro e w1 ⟨rfl, rfl⟩
  obtain ⟨g, hg, hg2, hd⟩ := diceAt_new (w := w) (w1 := w) (v := .slice none 0 0) (n := 0) (zs := []) (by simp) rfl (World.ownsRow_nil _ _ _ _) (bl_refl w)
  have HD := hide hd
  clear hd
  go_wp2
  go_ret
  exact ⟨w.heap.size, g, rfl, Nat.le_refl _, hg, by simp, hg2, HD.out, bl_alloc (bl_refl w) _⟩

set_option maxRecDepth 100000 in
set_option maxHeartbeats 1000000 in
theorem next_any (w : World) (b g : Nat) (rest : List Int) (last : Int) (h : DiceAt w b g rest last) :
    Calls Tryz.prog 79 #[.pointer (some ⟨b, 0, none⟩)] w fun e w' => e = .returned (.int .u32 (nxt rest last)) ∧ DiceAt w' b g rest.tail (nxt rest last) ∧ w.grownBy w' (some b) := by
  obtain ⟨bd, hall, A, cap, h0, h1, f0, f1, hlc, hcm, hr⟩ := h
  unfold maxLen at hcm
  cases rest with
  | nil =>
    clear hr
    simp only [List.length_nil] at h0
    go_enter Tryz.func79, Tryz.ntmps79
    go_wp2
    go_ret
    refine ⟨rfl, ⟨by simp only [nxt]; omega, by simp, A, cap, ?_, ?_, ?_, ?_, by simp, hcm, .inl rfl⟩, grown_set (grown_refl w _) _ _⟩
    all_goals ((try simp only [nxt, List.tail_nil, List.length_nil]); go_simp)
  | cons x r =>
    rcases hr with hr | ⟨off, rfl, hbg, hcells⟩
    · cases hr
    · have hx : w.cell? ⟨g, off, none⟩ = some (.int .u32 x) := by simpa using hcells 0 (by simp)
      have hcs : ∀ j, j < r.length → w.cell? ⟨g, off + 1 + j, none⟩ = some (.int .u32 (r.getD j 0)) := fun j hj => by
        have := hcells (j + 1) (by simp; omega)
        rw [show off + 1 + j = off + (j + 1) by omega, this]
        simp
      have hg1 : (w.setCell ⟨b, 1, none⟩ (.int .u32 x)).heap[g]? = w.heap[g]? := Below.heap_setCell w _ _ g (by simpa using hbg)
      have HB := hide hbg
      have HCS := hide hcs
      have hrall : ∀ y ∈ r, 0 ≤ y ∧ y < 4294967296 := fun y hy => hall y (by simp [hy])
      have HR := hide hrall
      have hxb := hall x (by simp)
      clear hcells hcs hall hrall hg1
      simp only [List.length_cons] at h0 hlc
      have hne : (((r.length : Int) + 1) == 0) = false := by simp; omega
      generalize hrl : r.length = n at h0 hlc hne
      have HL := hide hrl
      clear hrl
      have hbg' : b ≠ g := fun e => HB.out e.symm
      have fin : ∀ (A' : Option Addr) (cap' : Nat) (o : Nat), n ≤ cap' → cap' ≤ 9223372036854775807 → (n = 0 ∨ A' = some ⟨g, off + 1, none⟩) →
          DiceAt ((w.setCell ⟨b, 1, none⟩ (.int .u32 x)).setCell ⟨b, 0, none⟩ (.slice A' n cap')).drew b g r x := fun A' cap' o hn hc' hA' => by
        have hblk : (((w.setCell ⟨b, 1, none⟩ (.int .u32 x)).setCell ⟨b, 0, none⟩ (.slice A' n cap')).drew).heap[g]? = w.heap[g]? :=
          (Below.heap_setCell _ _ _ g (by simpa using HB.out)).trans (Below.heap_setCell w _ _ g (by simpa using HB.out))
        refine ⟨hxb, HR.out, A', cap', ?_, ?_, ?_, ?_, by rw [HL.out]; exact hn, hc', ?_⟩
        · rw [HL.out]; go_simp
        · go_simp
        · go_simp
        · go_simp
        · rcases hA' with h0' | rfl
          · exact .inl (List.eq_nil_of_length_eq_zero (by rw [HL.out]; exact h0'))
          · exact .inr ⟨off + 1, rfl, HB.out, fun j hj => by rw [World.cell?_of_block (w := w) hblk]; exact HCS.out j hj⟩
      have FIN := hide fin
      clear fin
      go_enter Tryz.func79, Tryz.ntmps79
      go_wp2
      go_region
      all_goals
        go_wp2
      all_goals
        go_ret
        refine ⟨rfl, ?_, grown_drew (grown_set (grown_set (grown_refl w _) _ _) _ _)⟩
        first
          | exact FIN.out _ _ 0 (by omega) (by omega) (.inr rfl)
          | exact FIN.out _ _ 0 (by omega) (by omega) (.inl (by omega))
theorem nextnil_any (w : World) : Calls Tryz.prog 79 #[.pointer none] w fun e w' => e = .returned (.int .u32 0) ∧ w = w' := by
  go_enter Tryz.func79, Tryz.ntmps79
  go_wp2
  go_ret
  exact ⟨rfl, rfl⟩
end Go.Proofs.YtjcmbnmejkhcjaaGreat
