/- A rope in memory among trees of pieces: New, Twin. Condition: texts that are not too long. -/
import Derived.Test.YtjcmbnmejkhcjaaGreatRopH
namespace Go.Proofs.YtjcmbnmejkhcjaaGreat
open Go.ChangeShapes Go.WideShapes Go.ChangeAt Go.RowKit
attribute [local go_sem ↓] Go.wp_at_zero Go.wp_at_succ
set_option maxRecDepth 100000
/-- Texts one behind the other. -/
def cat (xs : List ByteArray) : List UInt8 := xs.flatMap fun x => x.data.toList
theorem join_cat (xs : List ByteArray) : Lib.join (xs.map (·.data.toList)) (⟨#[]⟩ : ByteArray).data.toList = cat xs := by
  unfold Lib.join cat
  rw [List.flatMap_def]
  generalize xs.map (fun x => x.data.toList) = l
  have h : ∀ l : List (List UInt8), ([] : List UInt8).intercalate l = l.flatten := by
    intro l
    unfold List.intercalate
    induction l with
    | nil => rfl
    | cons a r ih => cases r with
      | nil => simp
      | cons b q => simp only [List.intersperse_cons_cons, List.flatten_cons] at ih ⊢; rw [ih]; simp
  exact h l
theorem cat_take (xs : List ByteArray) (k : Nat) (h : k < xs.length) : (cat (xs.take (k + 1))).length = (cat (xs.take k)).length + xs[k].size := by
  unfold cat
  rw [List.take_succ_eq_append_getElem h, List.flatMap_append, List.length_append]
  simp
theorem cat_le (xs : List ByteArray) (k : Nat) : (cat (xs.take k)).length ≤ (cat xs).length := by
  unfold cat
  conv => rhs; rw [← List.take_append_drop k xs, List.flatMap_append, List.length_append]
  omega
def NewPost (w0 : World) (S0 R : List Nat) (d g : Nat) (ts : List T) (s : List UInt8) (w : World) (e : Ending) (w' : World) : Prop :=
  ∃ (r : Nat) (t : T), e = .returned (.tuple #[.pointer (some ⟨r, 0, none⟩), .int .i64 0]) ∧ w.heap.size ≤ r ∧ t.text = s ∧ Live w0 S0 (r :: R) d g w' (t :: ts) ∧ RpC w' r d t ∧ Keeps R d w w'
set_option maxHeartbeats 8000000 in
theorem new_r {w0 : World} {S0 R : List Nat} {d g : Nat} {w : World} {ts : List T} (h : Live w0 S0 R d g w ts) (p off c : Nat) (xs : List ByteArray) (hp : p < w.heap.size) (hcells : ∀ (j : Nat) z, xs[j]? = some z → w.cell? ⟨p, off + j, none⟩ = some (.string z)) (hc : xs.length ≤ c) (hx : xs.length ≤ 1000) (hlen : (cat xs).length ≤ 65536) :
    Calls Tryz.prog 11 #[.pointer (some ⟨d, 0, none⟩), .slice (some ⟨p, off, none⟩) xs.length c] w (NewPost w0 S0 R d g ts (cat xs) w) := by
  have hLA := h.reserve (.cells #[.pointer (some ⟨d, 0, none⟩), .pointer none] 62)
  have hoA : RpC (w.alloc (.cells #[.pointer (some ⟨d, 0, none⟩), .pointer none] 62)) w.heap.size d .nil := heap_alloc_new w _
  have hba : Below w.heap.size w (w.alloc (.cells #[.pointer (some ⟨d, 0, none⟩), .pointer none] 62)) := bl_alloc (bl_refl w) _
  have HJ := hide (sjoin_any p off c xs ⟨#[]⟩ _ (fun j z hz => cell_later hba (hcells j z hz)) (Nat.lt_of_lt_of_le hp hba.size) (by omega) hc (by rw [join_cat]; omega))
  rw [join_cat] at HJ
  have hdw := h.hR d h.dR
  have hgw := h.hR g h.gR
  have hch := h.chg.size
  have HR := hide h.hR
  have HLA := hide hLA
  have HOA := hide hoA
  have HBA := hide hba
  have HCE := hide hcells
  have HLEN := hide hlen
  clear h hLA hoA hba hcells hlen
  go_enter Tryz.func11, Tryz.ntmps11
  go_wp2
  go_loopw [6, 14] (fun n i wr => ∃ k : Nat, n = .int .i64 ((cat (xs.take k)).length : Nat) ∧ i = .int .i64 k ∧ k ≤ xs.length ∧ w = wr) (fun _ i _ => xs.length - (intOf i).toNat)
  case atStart => exact ⟨0, by simp [cat], rfl, Nat.zero_le _, rfl⟩
  case round =>
    obtain ⟨k, rfl, rfl, hk, rfl⟩ := hrel
    by_cases hlt : k < xs.length
    · have y0 := HCE.out k xs[k] (List.getElem?_eq_getElem hlt)
      have hst := cat_take xs k hlt
      have hle := cat_le xs (k + 1)
      have hl := HLEN.out
      obtain ⟨m, hm⟩ : ∃ m, (cat (xs.take k)).length = m := ⟨_, rfl⟩
      rw [hm] at hst ⊢
      generalize xs[k] = z at *
      have hs1 : (m : Int) + (z.size : Int) = (((cat (xs.take (k + 1))).length : Nat) : Int) := by omega
      have hs2 : m + z.size ≤ 65536 := by omega
      have g1 : decide ((65536 : Int) < (m : Int) + (z.size : Int)) = false := decide_eq_false (by omega)
      have HS1 := hide hs1
      clear hst hle hl hm hs1
      go_wp2
      refine ⟨?_, by first | (simp [intOf]; done) | (simp [intOf]; omega)⟩
      exact ⟨k + 1, by rw [← HS1.out], by go_num, by omega, by first | rfl | trivial⟩
    · obtain rfl : k = xs.length := by omega
      rw [List.take_length]
      generalize hcn : (cat xs).length = cn at *
      have HCN := hide hcn
      clear hcn
      go_wp2_with fail
      refine HJ.out.mono ?_
      rintro e w1 ⟨rfl, hb1⟩
      have hl1 := (live_bl HLA.out hb1).1
      have ho1 := rp_bl HOA.out hb1
      obtain ⟨c0, _, _, _⟩ := rp_cells ho1
      have HB := hide (build_live hl1 w.heap.size List.mem_cons_self (by omega) c0 (strOf (cat xs)) (by have := HLEN.out; have := HCN.out; rw [show (strOf (cat xs)).size = (cat xs).length from by unfold strOf; simp [ByteArray.size]]; omega))
      rw [strOf_list] at HB
      rw [show (⟨(cat xs).toArray⟩ : ByteArray) = strOf (cat xs) from rfl]
      have HO1 := hide ho1
      have hb01 := HBA.out.trans (hb1.mono HBA.out.size)
      clear hl1 ho1 HJ
      go_wp2_with fail
      refine HB.out.mono ?_
      rintro e w2 ⟨t, rfl, htx, hl2, hk2⟩
      have ho2 := rp_keep HO1.out hk2 List.mem_cons_self (show w.heap.size ≠ d by omega)
      obtain ⟨_, e1, _, f1⟩ := rp_cells ho2
      have hl3 := hl2.set (r := w.heap.size) List.mem_cons_self (by omega) (by omega) (.inr hch) 1 (.pointer t.addr)
      have hfin : NewPost w0 S0 R d g ts (cat xs) w (.returned (.tuple #[.pointer (some ⟨w.heap.size, 0, none⟩), .int .i64 0])) (w2.setCell ⟨w.heap.size, 1, none⟩ (.pointer t.addr)) :=
        ⟨_, t, rfl, Nat.le_refl _, htx, hl3, rp_set (t := .nil) ho2 t, fun q hq hn => by
          have hqw := HR.out q hq
          rw [Below.heap_setCell _ ⟨w.heap.size, 1, none⟩ _ q (by simp only; omega), hk2 q (List.mem_cons_of_mem _ hq) hn]
          exact hb01.block q hqw⟩
      have HF := hide hfin
      clear hfin hl2 hl3 htx ho2 hk2 HB
      go_wp2
      go_ret2
      exact HF.out
set_option maxHeartbeats 8000000 in
theorem new_big {d : Nat} {w : World} (p off c : Nat) (xs : List ByteArray) (hcells : ∀ (j : Nat) z, xs[j]? = some z → w.cell? ⟨p, off + j, none⟩ = some (.string z)) (hx : xs.length ≤ 1000) (hz : ∀ z ∈ xs, z.size ≤ 1000000) (hlen : 65536 < (cat xs).length) :
    Calls Tryz.prog 11 #[.pointer (some ⟨d, 0, none⟩), .slice (some ⟨p, off, none⟩) xs.length c] w fun e w' => e = .returned (.tuple #[.pointer none, .int .i64 4]) ∧ w = w' := by
  have HCE := hide hcells
  have HLEN := hide hlen
  have HZ := hide hz
  clear hcells hlen hz
  go_enter Tryz.func11, Tryz.ntmps11
  go_wp2
  go_loopw [6, 14] (fun n i wr => ∃ k : Nat, n = .int .i64 ((cat (xs.take k)).length : Nat) ∧ i = .int .i64 k ∧ k ≤ xs.length ∧ (cat (xs.take k)).length ≤ 65536 ∧ w = wr) (fun _ i _ => xs.length - (intOf i).toNat)
  case atStart => exact ⟨0, by simp [cat], rfl, Nat.zero_le _, by simp [cat], rfl⟩
  case round =>
    obtain ⟨k, rfl, rfl, hk, hle, rfl⟩ := hrel
    by_cases hlt : k < xs.length
    · have y0 := HCE.out k xs[k] (List.getElem?_eq_getElem hlt)
      have hst := cat_take xs k hlt
      have hzz := HZ.out xs[k] (List.getElem_mem hlt)
      obtain ⟨m, hm⟩ : ∃ m, (cat (xs.take k)).length = m := ⟨_, rfl⟩
      rw [hm] at hst hle ⊢
      generalize xs[k] = z at *
      by_cases hbig : 65536 < m + z.size
      · have g1 : decide ((65536 : Int) < (m : Int) + (z.size : Int)) = true := decide_eq_true (by omega)
        clear hst hm
        go_wp2
        go_ret2
        exact ⟨rfl, rfl⟩
      · have hs1 : (m : Int) + (z.size : Int) = (((cat (xs.take (k + 1))).length : Nat) : Int) := by omega
        have g1 : decide ((65536 : Int) < (m : Int) + (z.size : Int)) = false := decide_eq_false (by omega)
        have hs3 : (cat (xs.take (k + 1))).length ≤ 65536 := by omega
        have HS1 := hide hs1
        have HS3 := hide hs3
        clear hst hm hs1 hs3
        go_wp2
        refine ⟨?_, by first | (simp [intOf]; done) | (simp [intOf]; omega)⟩
        exact ⟨k + 1, by rw [← HS1.out], by go_num, by omega, HS3.out, by first | rfl | trivial⟩
    · obtain rfl : k = xs.length := by omega
      rw [List.take_length] at hle
      have := HLEN.out
      omega
end Go.Proofs.YtjcmbnmejkhcjaaGreat
