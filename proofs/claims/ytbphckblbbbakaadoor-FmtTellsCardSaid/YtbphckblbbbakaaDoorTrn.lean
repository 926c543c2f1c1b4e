/- Contract of the reference's Turn, in each of its ways. No condition but short texts. -/
import Derived.Test.YtbphckblbbbakaaDoorTurn
import Derived.Test.YtbphckblbbbakaaDoorArgs
namespace Go.Proofs.YtbphckblbbbakaaDoor
open Go.ChangeShapes Go.WideShapes Go.ChangeAt Go.RowKit
set_option maxRecDepth 100000 in
set_option maxHeartbeats 2000000 in
theorem rturn_map1 (s : ByteArray) (w : World) (hs : s.size ≤ 10000) :
    Calls Tryd.prog 28 #[.string s, .int .i64 1] w fun e w' => e = .returned (.tuple #[.string (mapS upB s), .int .i64 0]) ∧ Below w.heap.size w w' := by
  have hcv := fun (W : World) => Go.run_bytes_of_string W 9 43 5 s Tryd.underlying9 Tryd.underlying43 Tryd.underlying5
  have hcap := grownCap_ge w s.size 0 5
  have hcap2 := grownCap_le_maxLen w s.size 0 5 (by unfold maxLen; omega)
  unfold maxLen at hcap2
  have hb := bytes_new w s (grownCap w s.size 0 5) 5 hcap
  have hbl : Below w.heap.size w (w.drew.alloc (.cells (Go.bytesRow s (grownCap w s.size 0 5)) 5 ((Go.bytesRow s (grownCap w s.size 0 5)).size, (Go.bytesRow s (grownCap w s.size 0 5)).size + 1))) := bl_alloc (bl_drew (bl_refl w)) _
  go_enter Tryd.func28, Tryd.ntmps28
  go_wp2
  generalize grownCap w s.size 0 5 = cap at *
  go_loopw [7] (fun i wr => ∃ k : Nat, k ≤ s.size ∧ i = .int .i64 k ∧ BytesAt wr w.heap.size s.size (part upB s.data.toList k) ∧ Below w.heap.size w wr)
    (fun i _ => s.size - (intOf i).toNat)
  case atStart => exact ⟨0, Nat.zero_le _, rfl, hb, hbl⟩
  case round =>
    obtain ⟨k, hk, rfl, hbr, hblr⟩ := hrel
    clear hb hbl hcv
    by_cases hlt : k < s.size
    · have hkl : k < s.data.toList.length := by simpa using hlt
      have hc := hbr.2.2.1 k hlt
      have hf := hbr.2.2.2 k hlt
      have hp := part_at upB s.data.toList k hkl
      rw [hp] at hc
      have hset := bytes_set hbr k hlt (upB s.data.toList[k])
      rw [part_set upB s.data.toList k hkl] at hset
      have HSET := hide hset
      clear hp hset
      generalize s.data.toList[k] = c at *
      go_wp2_with (go_at_call 40; refine (rup_any c _).mono ?_; rintro e w1 ⟨rfl, rfl⟩)
      refine ⟨?_, by simp [intOf]; omega⟩
      have hbl2 : Below w.heap.size w (wr.setCell ⟨w.heap.size, k, none⟩ (.int .u8 ((upB c).toNat : Int))) := bl_set hblr (Nat.le_refl _) _
      first
        | exact ⟨k + 1, by omega, by go_num, HSET.out, hbl2⟩
        | ((repeat apply Exists.intro); exact ⟨⟨k + 1, by omega, by go_num, HSET.out, hbl2⟩, rfl⟩)
    · obtain rfl : k = s.size := by omega
      have hl : part upB s.data.toList s.size = s.data.toList.map upB := by have := part_all upB s.data.toList; simpa using this
      rw [hl] at hbr
      have hlen : (s.data.toList.map upB).length = s.size := by simp
      have hback := Go.run_convert_bytes_back wr 43 9 5 ⟨w.heap.size, 0, none⟩ cap (s.data.toList.map upB) Tryd.underlying43 Tryd.underlying5 Tryd.underlying9 (fun j hj => by
        have hj' : j < s.size := by simpa using hj
        have h1 := hbr.2.2.1 j hj'
        have h2 : ((⟨w.heap.size, 0, none⟩ : Addr).add j) = ⟨w.heap.size, j, none⟩ := by rw [addr_add, Nat.zero_add]
        rw [h2, h1, getD_lt _ _ hj])
      rw [hlen] at hback
      clear hl hlen hbr
      go_wp2
      go_ret2
      exact ⟨rfl, hblr⟩
set_option maxRecDepth 100000 in
set_option maxHeartbeats 2000000 in
theorem rturn_map2 (s : ByteArray) (w : World) (hs : s.size ≤ 10000) :
    Calls Tryd.prog 28 #[.string s, .int .i64 2] w fun e w' => e = .returned (.tuple #[.string (mapS downB s), .int .i64 0]) ∧ Below w.heap.size w w' := by
  have hcv := fun (W : World) => Go.run_bytes_of_string W 9 43 5 s Tryd.underlying9 Tryd.underlying43 Tryd.underlying5
  have hcap := grownCap_ge w s.size 0 5
  have hcap2 := grownCap_le_maxLen w s.size 0 5 (by unfold maxLen; omega)
  unfold maxLen at hcap2
  have hb := bytes_new w s (grownCap w s.size 0 5) 5 hcap
  have hbl : Below w.heap.size w (w.drew.alloc (.cells (Go.bytesRow s (grownCap w s.size 0 5)) 5 ((Go.bytesRow s (grownCap w s.size 0 5)).size, (Go.bytesRow s (grownCap w s.size 0 5)).size + 1))) := bl_alloc (bl_drew (bl_refl w)) _
  go_enter Tryd.func28, Tryd.ntmps28
  go_wp2
  generalize grownCap w s.size 0 5 = cap at *
  go_loopw [8] (fun i wr => ∃ k : Nat, k ≤ s.size ∧ i = .int .i64 k ∧ BytesAt wr w.heap.size s.size (part downB s.data.toList k) ∧ Below w.heap.size w wr)
    (fun i _ => s.size - (intOf i).toNat)
  case atStart => exact ⟨0, Nat.zero_le _, rfl, hb, hbl⟩
  case round =>
    obtain ⟨k, hk, rfl, hbr, hblr⟩ := hrel
    clear hb hbl hcv
    by_cases hlt : k < s.size
    · have hkl : k < s.data.toList.length := by simpa using hlt
      have hc := hbr.2.2.1 k hlt
      have hf := hbr.2.2.2 k hlt
      have hp := part_at downB s.data.toList k hkl
      rw [hp] at hc
      have hset := bytes_set hbr k hlt (downB s.data.toList[k])
      rw [part_set downB s.data.toList k hkl] at hset
      have HSET := hide hset
      clear hp hset
      generalize s.data.toList[k] = c at *
      go_wp2_with (go_at_call 41; refine (rdown_any c _).mono ?_; rintro e w1 ⟨rfl, rfl⟩)
      refine ⟨?_, by simp [intOf]; omega⟩
      have hbl2 : Below w.heap.size w (wr.setCell ⟨w.heap.size, k, none⟩ (.int .u8 ((downB c).toNat : Int))) := bl_set hblr (Nat.le_refl _) _
      first
        | exact ⟨k + 1, by omega, by go_num, HSET.out, hbl2⟩
        | ((repeat apply Exists.intro); exact ⟨⟨k + 1, by omega, by go_num, HSET.out, hbl2⟩, rfl⟩)
    · obtain rfl : k = s.size := by omega
      have hl : part downB s.data.toList s.size = s.data.toList.map downB := by have := part_all downB s.data.toList; simpa using this
      rw [hl] at hbr
      have hlen : (s.data.toList.map downB).length = s.size := by simp
      have hback := Go.run_convert_bytes_back wr 43 9 5 ⟨w.heap.size, 0, none⟩ cap (s.data.toList.map downB) Tryd.underlying43 Tryd.underlying5 Tryd.underlying9 (fun j hj => by
        have hj' : j < s.size := by simpa using hj
        have h1 := hbr.2.2.1 j hj'
        have h2 : ((⟨w.heap.size, 0, none⟩ : Addr).add j) = ⟨w.heap.size, j, none⟩ := by rw [addr_add, Nat.zero_add]
        rw [h2, h1, getD_lt _ _ hj])
      rw [hlen] at hback
      clear hl hlen hbr
      go_wp2
      go_ret2
      exact ⟨rfl, hblr⟩
theorem capL_set (f : UInt8 → UInt8) (l : List UInt8) (h : 0 < l.length) : l.set 0 (f (l.getD 0 0)) = capL f l := by
  cases l with
  | nil => simp at h
  | cons c r => rfl
theorem capL_len (f : UInt8 → UInt8) (l : List UInt8) : (capL f l).length = l.length := by cases l <;> rfl
set_option maxRecDepth 100000 in
set_option maxHeartbeats 2000000 in
theorem rturn_cap (s : ByteArray) (w : World) (hs : s.size ≤ 10000) :
    Calls Tryd.prog 28 #[.string s, .int .i64 3] w fun e w' => e = .returned (.tuple #[.string ⟨(capL upB s.data.toList).toArray⟩, .int .i64 0]) ∧ Below w.heap.size w w' := by
  have hcv := Go.run_bytes_of_string w 9 43 5 s Tryd.underlying9 Tryd.underlying43 Tryd.underlying5
  have hcap := grownCap_ge w s.size 0 5
  have hcap2 := grownCap_le_maxLen w s.size 0 5 (by unfold maxLen; omega)
  unfold maxLen at hcap2
  have hb := bytes_new w s (grownCap w s.size 0 5) 5 hcap
  have hbl : Below w.heap.size w (w.drew.alloc (.cells (Go.bytesRow s (grownCap w s.size 0 5)) 5 ((Go.bytesRow s (grownCap w s.size 0 5)).size, (Go.bytesRow s (grownCap w s.size 0 5)).size + 1))) := bl_alloc (bl_drew (bl_refl w)) _
  generalize w.drew.alloc (.cells (Go.bytesRow s (grownCap w s.size 0 5)) 5 ((Go.bytesRow s (grownCap w s.size 0 5)).size, (Go.bytesRow s (grownCap w s.size 0 5)).size + 1)) = W3 at *
  generalize grownCap w s.size 0 5 = cap at *
  by_cases h0 : 0 < s.size
  · have hl0 : 0 < s.data.toList.length := by rw [len_data]; exact h0
    have hc := hb.2.2.1 0 h0
    have hf := hb.2.2.2 0 h0
    have hset := bytes_set hb 0 h0 (upB (s.data.toList.getD 0 0))
    rw [capL_set upB _ hl0] at hset
    have hlen : (capL upB s.data.toList).length = s.size := by rw [capL_len, len_data]
    have hbl2 := bl_set hbl (Nat.le_refl w.heap.size) (p := ⟨w.heap.size, 0, none⟩) (.int .u8 ((upB (s.data.toList.getD 0 0)).toNat : Int))
    have hback := Go.run_convert_bytes_back (W3.setCell ⟨w.heap.size, 0, none⟩ (.int .u8 ((upB (s.data.toList.getD 0 0)).toNat : Int))) 43 9 5 ⟨w.heap.size, 0, none⟩ cap (capL upB s.data.toList) Tryd.underlying43 Tryd.underlying5 Tryd.underlying9 (fun j hj => by
      have hj' : j < s.size := by rw [← hlen]; exact hj
      have h1 := hset.2.2.1 j hj'
      have h2 : ((⟨w.heap.size, 0, none⟩ : Addr).add j) = ⟨w.heap.size, j, none⟩ := by rw [addr_add, Nat.zero_add]
      rw [h2, ← getD_lt _ _ hj]
      exact h1)
    rw [hlen] at hback
    have HBL := hide hbl2
    have hs0 : (0 : Int) < (s.size : Int) := by omega
    clear hset hb hbl hbl2 hlen
    generalize s.data.toList.getD 0 0 = c at *
    go_enter Tryd.func28, Tryd.ntmps28
    go_wp2_with (go_at_call 40; refine (rup_any c _).mono ?_; rintro e w1 ⟨rfl, rfl⟩)
    go_ret2
    exact ⟨rfl, HBL.out⟩
  · have hl : s.data.toList = [] := List.eq_nil_of_length_eq_zero (by rw [len_data]; omega)
    obtain rfl : s = ⟨#[]⟩ := ByteArray.ext (Array.ext' (by simpa using hl))
    have hback := fun (W : World) (c : Nat) => Go.run_convert_bytes_back (P := Tryd.prog) W 43 9 5 ⟨w.heap.size, 0, none⟩ c [] Tryd.underlying43 Tryd.underlying5 Tryd.underlying9 (fun j hj => by simp at hj)
    have e0 : (⟨#[]⟩ : ByteArray).size = 0 := rfl
    rw [e0] at hcv
    simp only [List.length_nil] at hback
    have hb3 := hback W3 cap
    have HBL := hide hbl
    clear hb hbl hl hcap h0 hback e0
    go_enter Tryd.func28, Tryd.ntmps28
    go_wp2
    go_ret2
    exact ⟨rfl, HBL.out⟩
set_option maxRecDepth 100000 in
set_option maxHeartbeats 8000000 in
theorem rturn_join4 (s : ByteArray) (w : World) (hs : s.size ≤ 10000) :
    Calls Tryd.prog 28 #[.string s, .int .i64 4] w fun e w' => e = .returned (.tuple #[.string ⟨(jn downB s.data.toList true true).toArray⟩, .int .i64 0]) ∧ Below w.heap.size w w' := by
  have hcvs := fun (W : World) => Go.run_bytes_of_string W 9 43 5 s Tryd.underlying9 Tryd.underlying43 Tryd.underlying5
  have hblS : ∀ cap : Nat, Below w.heap.size w (w.drew.alloc (.cells (Go.bytesRow s cap) 5 ((Go.bytesRow s cap).size, (Go.bytesRow s cap).size + 1))) := fun cap => bl_alloc (bl_drew (bl_refl w)) _
  go_enter Tryd.func28, Tryd.ntmps28
  go_wp2_with fail
  generalize grownCap w s.size 0 5 = capS at *
  refine (words_any s _ hs).mono ?_
  rintro e w2 ⟨v, zs, rfl, hb2, hO, hzl, hzz, HJ⟩
  have hb20 := bl_trans (hblS capS) hb2
  obtain ⟨aV, cV, rfl⟩ := own_slice hO
  have HO := hide hO
  have HZZ := hide hzz
  clear hcvs hblS hb2 hO hzz
  go_wp2
  go_loopw [10, 11] (fun o i wr => ∃ (k : Nat) (out : ByteArray), i = .int .i64 k ∧ o = .string out ∧ k ≤ zs.length ∧ out.size ≤ k * 10000 ∧ Hid (out.data.toList = joinW downB ((zs.take k).map fun z => z.data.toList)) ∧ Below w2.heap.size w2 wr)
    (fun _ i _ => zs.length - (intOf i).toNat)
  case atStart => exact ⟨0, ⟨#[]⟩, rfl, rfl, Nat.zero_le _, Nat.zero_le _, hide rfl, bl_refl w2⟩
  case round =>
    obtain ⟨k, out, rfl, rfl, hk, hos, HD, hbl⟩ := hrel
    by_cases hlt : k < zs.length
    · obtain ⟨g, c, hvv, hg1, hg2, hg3, hg4⟩ := own_posW HO.out (by omega)
      injection hvv with hv1 _ hv2
      subst hv1 hv2
      unfold maxLen at hg4
      have hcw : w2.cell? ⟨g, k, none⟩ = some (.string zs[k]) := by
        rw [World.ownsRow.cellAt HO.out k (by omega)]
        simp [hlt]
      have hcr := cell_later hbl hcw
      obtain ⟨hz1, hz2⟩ := HZZ.out zs[k] (List.getElem_mem hlt)
      have htk : (zs.take (k + 1)).map (fun z => z.data.toList) = (zs.take k).map (fun z => z.data.toList) ++ [zs[k].data.toList] := by
        rw [List.take_succ_eq_append_getElem hlt, List.map_append]; rfl
      have hjs := joinW_snoc downB ((zs.take k).map fun z => z.data.toList) zs[k].data.toList
      rw [← htk, ← HD.out] at hjs
      have HJS := hide hjs
      clear hcw htk hjs HD
      generalize zs[k] = z at *
      have hcv := Go.run_bytes_of_string wr 9 43 5 z Tryd.underlying9 Tryd.underlying43 Tryd.underlying5
      have hcap := grownCap_ge wr z.size 0 5
      have hcap2 := grownCap_le_maxLen wr z.size 0 5 (by unfold maxLen; omega)
      unfold maxLen at hcap2
      have hb := bytes_new wr z (grownCap wr z.size 0 5) 5 hcap
      have hbl3 : Below w2.heap.size w2 (wr.drew.alloc (.cells (Go.bytesRow z (grownCap wr z.size 0 5)) 5 ((Go.bytesRow z (grownCap wr z.size 0 5)).size, (Go.bytesRow z (grownCap wr z.size 0 5)).size + 1))) := bl_alloc (bl_drew hbl) _
      have hl0 : 0 < z.data.toList.length := by rw [len_data]; omega
      have hc := hb.2.2.1 0 (by omega)
      have hf := hb.2.2.2 0 (by omega)
      have hzc : (0 : Int) < (z.size : Int) := by omega
      have hws : w2.heap.size ≤ wr.heap.size := hbl.size
      generalize wr.drew.alloc (.cells (Go.bytesRow z (grownCap wr z.size 0 5)) 5 ((Go.bytesRow z (grownCap wr z.size 0 5)).size, (Go.bytesRow z (grownCap wr z.size 0 5)).size + 1)) = W3 at *
      generalize grownCap wr z.size 0 5 = cap at *
      have hbk : ∀ f : UInt8 → UInt8, _ := fun f => Go.run_convert_bytes_back (W3.setCell ⟨wr.heap.size, 0, none⟩ (.int .u8 ((f (z.data.toList.getD 0 0)).toNat : Int))) 43 9 5 ⟨wr.heap.size, 0, none⟩ cap (capL f z.data.toList) Tryd.underlying43 Tryd.underlying5 Tryd.underlying9 (fun j hj => by
        have hset := bytes_set hb 0 (by omega) (f (z.data.toList.getD 0 0))
        rw [capL_set f _ hl0] at hset
        have hj' : j < z.size := by rw [capL_len, len_data] at hj; exact hj
        have h1 := hset.2.2.1 j hj'
        rw [addr_add, Nat.zero_add, ← getD_lt _ _ hj]
        exact h1)
      have hlen : ∀ f : UInt8 → UInt8, (capL f z.data.toList).length = z.size := fun f => by rw [capL_len, len_data]
      have hsz0 : ∀ (f : UInt8 → UInt8) (sx : ByteArray), (⟨(capL f z.data.toList).toArray⟩ : ByteArray) = sx → sx.size = z.size := fun f sx h => by
        rw [← len_data sx, ← h]; exact hlen f
      have fin : ∀ (f : UInt8 → UInt8) (sx : ByteArray), (⟨(capL f z.data.toList).toArray⟩ : ByteArray) = sx → (if ((zs.take k).map fun z => z.data.toList).isEmpty then capL downB z.data.toList else capL upB z.data.toList) = capL f z.data.toList → (out ++ sx).size ≤ (k + 1) * 10000 ∧ Hid ((out ++ sx).data.toList = joinW downB ((zs.take (k + 1)).map fun z => z.data.toList)) := fun f sx hx h => by
        have h3 := hsz0 f sx hx
        refine ⟨?_, hide ?_⟩
        · rw [ByteArray.size_append]
          omega
        · rw [HJS.out, h, ByteArray.toList_data_append, ← hx]
      have hemp : ((zs.take k).map fun z => z.data.toList).isEmpty = decide (k = 0) := by
        rcases Nat.eq_zero_or_pos k with h0 | h0
        · subst h0; rfl
        · have hne : zs ≠ [] := by intro h; subst h; simp at hlt
          have h1 : ¬ k = 0 := by omega
          simp [h1, hne]
      rw [hemp] at fin
      have FIN := hide fin
      have hszf : ∀ (f : UInt8 → UInt8) (sx : ByteArray), (⟨(capL f z.data.toList).toArray⟩ : ByteArray) = sx → sx.size ≤ 10000 := fun f sx h => by rw [hsz0 f sx h]; omega
      have hosb : out.size ≤ 100000000 := by have : k * 10000 ≤ 10000 * 10000 := Nat.mul_le_mul_right _ (by omega); omega
      clear fin hb hemp HJS hsz0
      rcases Nat.eq_zero_or_pos k with hk0 | hk0
      · subst hk0
        have hback := hbk downB
        rw [hlen downB] at hback
        obtain ⟨sx, hsx⟩ : ∃ sx, (⟨(capL downB z.data.toList).toArray⟩ : ByteArray) = sx := ⟨_, rfl⟩
        have HFN := hide (FIN.out downB sx hsx (by first | rfl | (rw [if_neg (by simp; omega)]) | simp))
        have hsf := hszf downB sx hsx
        rw [hsx] at hback
        clear hbk hlen FIN hszf hsx
        generalize z.data.toList.getD 0 0 = ch at *
        have hbl4 : Below w2.heap.size w2 (W3.setCell ⟨wr.heap.size, 0, none⟩ (.int .u8 ((downB ch).toNat : Int))) := bl_set hbl3 hws _
        have HBL := hide hbl4
        clear hbl4 hbl3
        go_wp2_with (go_at_call 41; refine (rdown_any ch _).mono ?_; rintro e w1 ⟨rfl, rfl⟩)
        refine ⟨?_, by first | (simp [intOf]; done) | (simp [intOf]; omega)⟩
        first
          | exact ⟨0 + 1, _, by go_num, rfl, by omega, HFN.out.1, HFN.out.2, HBL.out⟩
          | ((repeat apply Exists.intro); exact ⟨⟨0 + 1, _, by go_num, rfl, by omega, HFN.out.1, HFN.out.2, HBL.out⟩, rfl⟩)
      · have hkz : ((k : Int) == 0) = false := by simp; omega
        have hback := hbk upB
        rw [hlen upB] at hback
        obtain ⟨sx, hsx⟩ : ∃ sx, (⟨(capL upB z.data.toList).toArray⟩ : ByteArray) = sx := ⟨_, rfl⟩
        have HFN := hide (FIN.out upB sx hsx (by first | rfl | (rw [if_neg (by simp; omega)]) | simp))
        have hsf := hszf upB sx hsx
        rw [hsx] at hback
        clear hbk hlen FIN hszf hsx
        generalize z.data.toList.getD 0 0 = ch at *
        have hbl4 : Below w2.heap.size w2 (W3.setCell ⟨wr.heap.size, 0, none⟩ (.int .u8 ((upB ch).toNat : Int))) := bl_set hbl3 hws _
        have HBL := hide hbl4
        clear hbl4 hbl3
        go_wp2_with (go_at_call 40; refine (rup_any ch _).mono ?_; rintro e w1 ⟨rfl, rfl⟩)
        refine ⟨?_, by first | (simp [intOf]; done) | (simp [intOf]; omega)⟩
        first
          | exact ⟨k + 1, _, by go_num, rfl, by omega, HFN.out.1, HFN.out.2, HBL.out⟩
          | ((repeat apply Exists.intro); exact ⟨⟨k + 1, _, by go_num, rfl, by omega, HFN.out.1, HFN.out.2, HBL.out⟩, rfl⟩)
    · obtain rfl : k = zs.length := by omega
      have hfin : out = ⟨(jn downB s.data.toList true true).toArray⟩ := by
        apply ByteArray.ext; apply Array.ext'
        rw [HD.out, List.take_of_length_le (Nat.le_refl _), HJ.out downB]
      have HF := hide hfin
      clear hfin HD hlt
      go_wp2
      go_ret2
      exact ⟨by rw [← HF.out]; rfl, bl_trans hb20 hbl⟩
set_option maxRecDepth 100000 in
set_option maxHeartbeats 8000000 in
theorem rturn_join5 (s : ByteArray) (w : World) (hs : s.size ≤ 10000) :
    Calls Tryd.prog 28 #[.string s, .int .i64 5] w fun e w' => e = .returned (.tuple #[.string ⟨(jn upB s.data.toList true true).toArray⟩, .int .i64 0]) ∧ Below w.heap.size w w' := by
  have hcvs := fun (W : World) => Go.run_bytes_of_string W 9 43 5 s Tryd.underlying9 Tryd.underlying43 Tryd.underlying5
  have hblS : ∀ cap : Nat, Below w.heap.size w (w.drew.alloc (.cells (Go.bytesRow s cap) 5 ((Go.bytesRow s cap).size, (Go.bytesRow s cap).size + 1))) := fun cap => bl_alloc (bl_drew (bl_refl w)) _
  go_enter Tryd.func28, Tryd.ntmps28
  go_wp2_with fail
  generalize grownCap w s.size 0 5 = capS at *
  refine (words_any s _ hs).mono ?_
  rintro e w2 ⟨v, zs, rfl, hb2, hO, hzl, hzz, HJ⟩
  have hb20 := bl_trans (hblS capS) hb2
  obtain ⟨aV, cV, rfl⟩ := own_slice hO
  have HO := hide hO
  have HZZ := hide hzz
  clear hcvs hblS hb2 hO hzz
  go_wp2
  go_loopw [10, 11] (fun o i wr => ∃ (k : Nat) (out : ByteArray), i = .int .i64 k ∧ o = .string out ∧ k ≤ zs.length ∧ out.size ≤ k * 10000 ∧ Hid (out.data.toList = joinW upB ((zs.take k).map fun z => z.data.toList)) ∧ Below w2.heap.size w2 wr)
    (fun _ i _ => zs.length - (intOf i).toNat)
  case atStart => exact ⟨0, ⟨#[]⟩, rfl, rfl, Nat.zero_le _, Nat.zero_le _, hide rfl, bl_refl w2⟩
  case round =>
    obtain ⟨k, out, rfl, rfl, hk, hos, HD, hbl⟩ := hrel
    by_cases hlt : k < zs.length
    · obtain ⟨g, c, hvv, hg1, hg2, hg3, hg4⟩ := own_posW HO.out (by omega)
      injection hvv with hv1 _ hv2
      subst hv1 hv2
      unfold maxLen at hg4
      have hcw : w2.cell? ⟨g, k, none⟩ = some (.string zs[k]) := by
        rw [World.ownsRow.cellAt HO.out k (by omega)]
        simp [hlt]
      have hcr := cell_later hbl hcw
      obtain ⟨hz1, hz2⟩ := HZZ.out zs[k] (List.getElem_mem hlt)
      have htk : (zs.take (k + 1)).map (fun z => z.data.toList) = (zs.take k).map (fun z => z.data.toList) ++ [zs[k].data.toList] := by
        rw [List.take_succ_eq_append_getElem hlt, List.map_append]; rfl
      have hjs := joinW_snoc upB ((zs.take k).map fun z => z.data.toList) zs[k].data.toList
      rw [← htk, ← HD.out] at hjs
      have HJS := hide hjs
      clear hcw htk hjs HD
      generalize zs[k] = z at *
      have hcv := Go.run_bytes_of_string wr 9 43 5 z Tryd.underlying9 Tryd.underlying43 Tryd.underlying5
      have hcap := grownCap_ge wr z.size 0 5
      have hcap2 := grownCap_le_maxLen wr z.size 0 5 (by unfold maxLen; omega)
      unfold maxLen at hcap2
      have hb := bytes_new wr z (grownCap wr z.size 0 5) 5 hcap
      have hbl3 : Below w2.heap.size w2 (wr.drew.alloc (.cells (Go.bytesRow z (grownCap wr z.size 0 5)) 5 ((Go.bytesRow z (grownCap wr z.size 0 5)).size, (Go.bytesRow z (grownCap wr z.size 0 5)).size + 1))) := bl_alloc (bl_drew hbl) _
      have hl0 : 0 < z.data.toList.length := by rw [len_data]; omega
      have hc := hb.2.2.1 0 (by omega)
      have hf := hb.2.2.2 0 (by omega)
      have hzc : (0 : Int) < (z.size : Int) := by omega
      have hws : w2.heap.size ≤ wr.heap.size := hbl.size
      generalize wr.drew.alloc (.cells (Go.bytesRow z (grownCap wr z.size 0 5)) 5 ((Go.bytesRow z (grownCap wr z.size 0 5)).size, (Go.bytesRow z (grownCap wr z.size 0 5)).size + 1)) = W3 at *
      generalize grownCap wr z.size 0 5 = cap at *
      have hbk : ∀ f : UInt8 → UInt8, _ := fun f => Go.run_convert_bytes_back (W3.setCell ⟨wr.heap.size, 0, none⟩ (.int .u8 ((f (z.data.toList.getD 0 0)).toNat : Int))) 43 9 5 ⟨wr.heap.size, 0, none⟩ cap (capL f z.data.toList) Tryd.underlying43 Tryd.underlying5 Tryd.underlying9 (fun j hj => by
        have hset := bytes_set hb 0 (by omega) (f (z.data.toList.getD 0 0))
        rw [capL_set f _ hl0] at hset
        have hj' : j < z.size := by rw [capL_len, len_data] at hj; exact hj
        have h1 := hset.2.2.1 j hj'
        rw [addr_add, Nat.zero_add, ← getD_lt _ _ hj]
        exact h1)
      have hlen : ∀ f : UInt8 → UInt8, (capL f z.data.toList).length = z.size := fun f => by rw [capL_len, len_data]
      have hsz0 : ∀ (f : UInt8 → UInt8) (sx : ByteArray), (⟨(capL f z.data.toList).toArray⟩ : ByteArray) = sx → sx.size = z.size := fun f sx h => by
        rw [← len_data sx, ← h]; exact hlen f
      have fin : ∀ (f : UInt8 → UInt8) (sx : ByteArray), (⟨(capL f z.data.toList).toArray⟩ : ByteArray) = sx → (if ((zs.take k).map fun z => z.data.toList).isEmpty then capL upB z.data.toList else capL upB z.data.toList) = capL f z.data.toList → (out ++ sx).size ≤ (k + 1) * 10000 ∧ Hid ((out ++ sx).data.toList = joinW upB ((zs.take (k + 1)).map fun z => z.data.toList)) := fun f sx hx h => by
        have h3 := hsz0 f sx hx
        refine ⟨?_, hide ?_⟩
        · rw [ByteArray.size_append]
          omega
        · rw [HJS.out, h, ByteArray.toList_data_append, ← hx]
      have hemp : ((zs.take k).map fun z => z.data.toList).isEmpty = decide (k = 0) := by
        rcases Nat.eq_zero_or_pos k with h0 | h0
        · subst h0; rfl
        · have hne : zs ≠ [] := by intro h; subst h; simp at hlt
          have h1 : ¬ k = 0 := by omega
          simp [h1, hne]
      rw [hemp] at fin
      have FIN := hide fin
      have hszf : ∀ (f : UInt8 → UInt8) (sx : ByteArray), (⟨(capL f z.data.toList).toArray⟩ : ByteArray) = sx → sx.size ≤ 10000 := fun f sx h => by rw [hsz0 f sx h]; omega
      have hosb : out.size ≤ 100000000 := by have : k * 10000 ≤ 10000 * 10000 := Nat.mul_le_mul_right _ (by omega); omega
      clear fin hb hemp HJS hsz0
      rcases Nat.eq_zero_or_pos k with hk0 | hk0
      · subst hk0
        have hback := hbk upB
        rw [hlen upB] at hback
        obtain ⟨sx, hsx⟩ : ∃ sx, (⟨(capL upB z.data.toList).toArray⟩ : ByteArray) = sx := ⟨_, rfl⟩
        have HFN := hide (FIN.out upB sx hsx (by first | rfl | (rw [if_neg (by simp; omega)]) | simp))
        have hsf := hszf upB sx hsx
        rw [hsx] at hback
        clear hbk hlen FIN hszf hsx
        generalize z.data.toList.getD 0 0 = ch at *
        have hbl4 : Below w2.heap.size w2 (W3.setCell ⟨wr.heap.size, 0, none⟩ (.int .u8 ((upB ch).toNat : Int))) := bl_set hbl3 hws _
        have HBL := hide hbl4
        clear hbl4 hbl3
        go_wp2_with (go_at_call 40; refine (rup_any ch _).mono ?_; rintro e w1 ⟨rfl, rfl⟩)
        refine ⟨?_, by first | (simp [intOf]; done) | (simp [intOf]; omega)⟩
        first
          | exact ⟨0 + 1, _, by go_num, rfl, by omega, HFN.out.1, HFN.out.2, HBL.out⟩
          | ((repeat apply Exists.intro); exact ⟨⟨0 + 1, _, by go_num, rfl, by omega, HFN.out.1, HFN.out.2, HBL.out⟩, rfl⟩)
      · have hkz : ((k : Int) == 0) = false := by simp; omega
        have hback := hbk upB
        rw [hlen upB] at hback
        obtain ⟨sx, hsx⟩ : ∃ sx, (⟨(capL upB z.data.toList).toArray⟩ : ByteArray) = sx := ⟨_, rfl⟩
        have HFN := hide (FIN.out upB sx hsx (by first | rfl | (rw [if_neg (by simp; omega)]) | simp))
        have hsf := hszf upB sx hsx
        rw [hsx] at hback
        clear hbk hlen FIN hszf hsx
        generalize z.data.toList.getD 0 0 = ch at *
        have hbl4 : Below w2.heap.size w2 (W3.setCell ⟨wr.heap.size, 0, none⟩ (.int .u8 ((upB ch).toNat : Int))) := bl_set hbl3 hws _
        have HBL := hide hbl4
        clear hbl4 hbl3
        go_wp2_with (go_at_call 40; refine (rup_any ch _).mono ?_; rintro e w1 ⟨rfl, rfl⟩)
        refine ⟨?_, by first | (simp [intOf]; done) | (simp [intOf]; omega)⟩
        first
          | exact ⟨k + 1, _, by go_num, rfl, by omega, HFN.out.1, HFN.out.2, HBL.out⟩
          | ((repeat apply Exists.intro); exact ⟨⟨k + 1, _, by go_num, rfl, by omega, HFN.out.1, HFN.out.2, HBL.out⟩, rfl⟩)
    · obtain rfl : k = zs.length := by omega
      have hfin : out = ⟨(jn upB s.data.toList true true).toArray⟩ := by
        apply ByteArray.ext; apply Array.ext'
        rw [HD.out, List.take_of_length_le (Nat.le_refl _), HJ.out upB]
      have HF := hide hfin
      clear hfin HD hlt
      go_wp2
      go_ret2
      exact ⟨by rw [← HF.out]; rfl, bl_trans hb20 hbl⟩
set_option maxRecDepth 100000 in
set_option maxHeartbeats 1000000 in
theorem rturn_no (s : ByteArray) (way : Int) (w : World) (h : ¬ (1 ≤ way ∧ way ≤ 5)) :
    Calls Tryd.prog 28 #[.string s, .int .i64 way] w fun e w' => e = .returned (.tuple #[.string ⟨#[]⟩, .int .i64 2]) ∧ Below w.heap.size w w' := by
  have hcv := Go.run_bytes_of_string w 9 43 5 s Tryd.underlying9 Tryd.underlying43 Tryd.underlying5
  have hbl : Below w.heap.size w (w.drew.alloc (.cells (Go.bytesRow s (grownCap w s.size 0 5)) 5 ((Go.bytesRow s (grownCap w s.size 0 5)).size, (Go.bytesRow s (grownCap w s.size 0 5)).size + 1))) := bl_alloc (bl_drew (bl_refl w)) _
  generalize w.drew.alloc (.cells (Go.bytesRow s (grownCap w s.size 0 5)) 5 ((Go.bytesRow s (grownCap w s.size 0 5)).size, (Go.bytesRow s (grownCap w s.size 0 5)).size + 1)) = W3 at *
  generalize grownCap w s.size 0 5 = cap at *
  have e1 : (way == 1) = false := by simp; omega
  have e2 : (way == 2) = false := by simp; omega
  have e3 : (way == 3) = false := by simp; omega
  have e4 : (way == 4) = false := by simp; omega
  have e5 : (way == 5) = false := by simp; omega
  clear h
  go_enter Tryd.func28, Tryd.ntmps28
  go_wp2
  go_ret2
  exact ⟨rfl, hbl⟩
theorem rturn_any (s sx : ByteArray) (way e0 : Int) (w : World) (hs : s.size ≤ 10000) (hl : (⟨(turnL way s.data.toList).toArray⟩ : ByteArray) = sx) (he : turnE way = e0) :
    Calls Tryd.prog 28 #[.string s, .int .i64 way] w fun e w' => e = .returned (.tuple #[.string sx, .int .i64 e0]) ∧ Below w.heap.size w w' := by
  subst hl he
  by_cases h1 : way = 1
  · subst h1; exact rturn_map1 s w hs
  by_cases h2 : way = 2
  · subst h2; exact rturn_map2 s w hs
  by_cases h3 : way = 3
  · subst h3; exact rturn_cap s w hs
  by_cases h4 : way = 4
  · subst h4; exact rturn_join4 s w hs
  by_cases h5 : way = 5
  · subst h5; exact rturn_join5 s w hs
  have hn : turnL way s.data.toList = [] := by unfold turnL; simp [*]
  have he : turnE way = 2 := by unfold turnE; rw [if_neg (by omega)]
  rw [hn, he]
  exact rturn_no s way w (by omega)
theorem turns_any (s sx : ByteArray) (way e0 : Int) (w : World) (hs : s.size ≤ 10000) (hl : (⟨(turnL way s.data.toList).toArray⟩ : ByteArray) = sx) (he : turnE way = e0) :
    Calls Tryd.prog 39 #[.string s, .int .i64 way] w fun e w' => e = .returned (.tuple #[.string sx, .int .i64 e0]) ∧ Below w.heap.size w w' := by
  subst hl he; exact turn_any s way w (by omega)
end Go.Proofs.YtbphckblbbbakaaDoor
