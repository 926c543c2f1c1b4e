/- The reference's answers on lines: where they begin and end, offsets, places, indentation. Condition: a text that is not too long. -/
import Derived.Test.YtjcmbnmejkhcjaaGreatLinA
import Derived.Test.YtjcmbnmejkhcjaaGreatTalC
import Derived.Test.YtjcmbnmejkhcjaaGreatOwn
namespace Go.Proofs.YtjcmbnmejkhcjaaGreat
open Go.ChangeShapes Go.WideShapes Go.ChangeAt Go.RowKit
set_option maxRecDepth 100000
set_option linter.unusedVariables false
def natV (ps : List Nat) : List Value := ps.map fun (p : Nat) => .int .i64 (p : Int)
def StInv (x : ByteArray) (w : World) (v i : Value) (wr : World) : Prop :=
  ∃ (k : Nat) (ps : List Nat), i = .int .i64 k ∧ k ≤ x.size ∧ ps.length ≤ k + 1 ∧ Hid (stL (x.data.toList.take k) = ps) ∧ wr.ownsRow w.heap.size 3 1 v ps.length (natV ps) ∧ Below w.heap.size w wr
def StPost (L : List UInt8) (w : World) (e : Ending) (w' : World) : Prop :=
  ∃ (g c n : Nat), e = .returned (.slice (some ⟨g, 0, none⟩) n c) ∧ (n : Int) = nBrk L + 1 ∧ n ≤ c ∧ c ≤ maxLen ∧ g < w'.heap.size ∧ (∀ j : Nat, j < n → w'.cell? ⟨g, j, none⟩ = some (.int .i64 (lnS L j))) ∧ Below w.heap.size w w'
theorem info_i4 : ∃ i, Tryz.prog.info? 3 = some i ∧ i.zero = some (.int .i64 0) ∧ i.size = 1 ∧ i.bytes = 8 := ⟨_, rfl, by kernel_rfl, by kernel_rfl, by kernel_rfl⟩
theorem st_post {L : List UInt8} {w w' : World} {v : Value} (h : w'.ownsRow w.heap.size 3 1 v (stL L).length (natV (stL L))) (hb : Below w.heap.size w w') : StPost L w (.returned v) w' := by
  have hl := stL_len L
  have h0 := nBrk_le L
  rcases own_form h with ⟨_, h1, _⟩ | ⟨g, c, rfl, _, h2, h3, h4, h5⟩
  · omega
  · refine ⟨g, c, _, rfl, hl, h3, h4, h2, fun j hj => ?_, hb⟩
    refine h5 j _ ?_
    unfold natV
    rw [List.getElem?_map, List.getElem?_eq_getElem hj, stL_get]
    rfl
set_option maxHeartbeats 4000000 in
theorem starts_any (x : ByteArray) (w : World) (hs : x.size ≤ 100000) :
    Calls Tryz.prog 75 #[.string x] w (StPost x.data.toList w) := by
  obtain ⟨i0, hi0, hz0', hz1, hz2⟩ := info_i4
  have hlit : (w.alloc (.cells #[.int .i64 0] 3)).ownsRow w.heap.size 3 1 (.slice (some ⟨w.heap.size, 0, none⟩) 1 1) 1 [.int .i64 0] :=
    ⟨by simp, .inr ⟨w.heap.size, 1, #[.int .i64 0], rfl, Nat.le_refl _, heap_alloc_new w _, Nat.le_refl _, by decide, by simp, by simp⟩⟩
  have hb0 : Below w.heap.size w (w.alloc (.cells #[.int .i64 0] 3)) := bl_alloc (bl_refl w) _
  go_enter Tryz.func75, Tryz.ntmps75
  go_wp2
  go_loopw [3, 4] (fun v i wr => StInv x w v i wr) (fun _ i _ => x.size - (intOf i).toNat)
  case atStart => exact ⟨0, [0], rfl, Nat.zero_le _, Nat.le_refl _, hide rfl, hlit, hb0⟩
  case round =>
    obtain ⟨k, ps, rfl, hk, hpl, HP, hv, hbl⟩ := hrel
    have hbw : w.heap.size ≤ wr.heap.size := hbl.size
    clear hlit hb0
    by_cases hlt : k < x.size
    · have hkl : k < x.data.toList.length := by simpa using hlt
      have hsn : stL (x.data.toList.take (k + 1)) = stL (x.data.toList.take k) ++ if x[k].toNat = 10 then [k + 1] else [] := by
        rw [List.take_succ_eq_append_getElem hkl, stL_snoc, List.length_take, Nat.min_eq_left (by omega)]
        rfl
      rw [HP.out] at hsn
      have hc : (x[k].toNat : Int) < 256 := by have := x[k].toNat_lt; omega
      by_cases h10 : x[k].toNat = 10
      · rw [if_pos h10] at hsn
        have HS := hide hsn
        have g10 : ((x[k].toNat : Int) == 10) = true := by simp; omega
        clear hsn HP h10
        go_wp2_with (first
          | (at_builtin; (refine wpList_push wr rfl _ _ 112 rfl w.heap.size 3 i0 (.int .i64 0) 1 8 Tryz.underlying112 hi0 hz0' hz1 hz2 rfl (by decide) u3 ps.length (natV ps) rfl hv 1 #[.int .i64 ((k : Int) + 1)] rfl rfl (by simp [Value.oneCell']) (by omega) (by decide) hbw ?_); intro v' w4 hv4 hg4 hat)
          | fail)
        have hbl4 : Below w.heap.size w w4 := bl_own hbl hv hg4 (Nat.le_refl _)
        refine ⟨?_, by first | (simp [intOf]; done) | (simp [intOf]; omega)⟩
        exact ⟨k + 1, ps ++ [k + 1], by go_num, by omega, by simp; omega, HS, by
          have e : natV (ps ++ [k + 1]) = natV ps ++ [.int .i64 ((k : Int) + 1)] := by simp [natV]
          rw [e, List.length_append]; exact hv4, hbl4⟩
      · rw [if_neg h10, List.append_nil] at hsn
        have HS := hide hsn
        have g10 : ((x[k].toNat : Int) == 10) = false := by simp; omega
        clear hsn HP h10
        go_wp2
        refine ⟨?_, by first | (simp [intOf]; done) | (simp [intOf]; omega)⟩
        exact ⟨k + 1, ps, by go_num, by omega, by omega, HS, hv, hbl⟩
    · obtain rfl : k = x.size := by omega
      have hP := HP.out
      rw [List.take_of_length_le (by simp)] at hP
      subst hP
      have HF := hide (st_post hv hbl)
      clear HP hv
      go_wp2
      go_ret
      exact HF.out
theorem lnC_cases (L : List UInt8) (i : Int) : (lnC L i = 0 ∧ 0 ≤ i ∧ i ≤ nBrk L) ∨ (lnC L i = 3 ∧ (i < 0 ∨ nBrk L < i)) := by
  unfold lnC
  by_cases h : 0 ≤ i ∧ i ≤ nBrk L
  · rw [if_pos h]; exact .inl ⟨rfl, h⟩
  · rw [if_neg h]; exact .inr ⟨rfl, by omega⟩
def lnSv (L : List UInt8) (i : Int) : Int := if lnC L i = 0 then (lnS L i : Int) else 0
def lnEv (L : List UInt8) (i : Int) : Int := if lnC L i = 0 then (lnE L i : Int) else 0
theorem lnSv_in {L : List UInt8} {i : Int} (h : lnC L i = 0) : lnSv L i = (lnS L i : Int) := if_pos h
theorem lnEv_in {L : List UInt8} {i : Int} (h : lnC L i = 0) : lnEv L i = (lnE L i : Int) := if_pos h
theorem lnSv_no {L : List UInt8} {i : Int} (h : lnC L i = 3) : lnSv L i = 0 := if_neg (by rw [h]; decide)
theorem lnEv_no {L : List UInt8} {i : Int} (h : lnC L i = 3) : lnEv L i = 0 := if_neg (by rw [h]; decide)
theorem rmany_any (x : ByteArray) (w : World) (hs : x.size ≤ 100000) :
    Calls Tryz.prog 46 #[.string x] w fun e w' => e = .returned (.int .i64 (nBrk x.data.toList + 1)) ∧ Below w.heap.size w w' := by
  have HST := hide (starts_any x w hs)
  obtain ⟨M, hM⟩ : ∃ M, nBrk x.data.toList + 1 = M := ⟨_, rfl⟩
  rw [hM]
  go_enter Tryz.func46, Tryz.ntmps46
  go_wp2_with fail
  refine HST.out.mono ?_
  rintro e w1 ⟨g, c, n, rfl, hn, _, _, _, _, hb⟩
  have HN := hide (hn.trans hM)
  clear hn HST hM
  go_wp2
  go_ret
  exact ⟨ret_int HN.out, hb⟩
theorem rstart_any (x : ByteArray) (i : Int) (w : World) (hs : x.size ≤ 100000) :
    Calls Tryz.prog 43 #[.string x, .int .i64 i] w fun e w' => e = .returned (.tuple #[.int .i64 (lnSv x.data.toList i), .int .i64 (lnC x.data.toList i)]) ∧ Below w.heap.size w w' := by
  have HST := hide (starts_any x w hs)
  rcases lnC_cases x.data.toList i with ⟨hm, h1, h2⟩ | ⟨hm, h1⟩
  · rw [lnSv_in hm, hm]
    obtain ⟨j, rfl⟩ : ∃ j : Nat, i = j := ⟨i.toNat, by omega⟩
    clear hm
    obtain ⟨v, hv⟩ : ∃ v, lnS x.data.toList j = v := ⟨_, rfl⟩
    rw [hv]
    go_enter Tryz.func43, Tryz.ntmps43
    go_wp2_with fail
    refine HST.out.mono ?_
    rintro e w1 ⟨g, c, n, rfl, hn, hc1, hc2, hg, hcell, hb⟩
    have hjn : j < n := by omega
    unfold maxLen at hc2
    have c0 := hcell j hjn
    rw [hv] at c0
    clear hcell hv hn h1 h2 HST
    go_wp2
    go_ret2
    exact ⟨rfl, hb⟩
  · rw [lnSv_no hm, hm]
    clear hm
    by_cases h0 : i < 0
    · have g0 : decide (i < 0) = true := decide_eq_true h0
      go_enter Tryz.func43, Tryz.ntmps43
      go_wp2_with fail
      refine HST.out.mono ?_
      rintro e w1 ⟨g, c, n, rfl, hn, hc1, hc2, hg, hcell, hb⟩
      clear hcell hn HST
      go_wp2
      go_ret2
      exact ⟨rfl, hb⟩
    · have g0 : decide (i < 0) = false := decide_eq_false h0
      go_enter Tryz.func43, Tryz.ntmps43
      go_wp2_with fail
      refine HST.out.mono ?_
      rintro e w1 ⟨g, c, n, rfl, hn, hc1, hc2, hg, hcell, hb⟩
      have g1 : decide ((n : Int) ≤ i) = true := decide_eq_true (by omega)
      clear hcell hn HST
      go_wp2
      go_ret2
      exact ⟨rfl, hb⟩
theorem rend_any (x : ByteArray) (i : Int) (w : World) (hs : x.size ≤ 100000) :
    Calls Tryz.prog 44 #[.string x, .int .i64 i] w fun e w' => e = .returned (.tuple #[.int .i64 (lnEv x.data.toList i), .int .i64 (lnC x.data.toList i)]) ∧ Below w.heap.size w w' := by
  have HST := hide (starts_any x w hs)
  have hbr := nBrk_le x.data.toList
  have hxl : x.data.toList.length = x.size := rfl
  rcases lnC_cases x.data.toList i with ⟨hm, h1, h2⟩ | ⟨hm, h1⟩
  · rw [lnEv_in hm, hm]
    obtain ⟨j, rfl⟩ : ∃ j : Nat, i = j := ⟨i.toNat, by omega⟩
    clear hm
    have hw : IntKind.i64.wrap ((j : Int) + 1) = (j : Int) + 1 := IntWalk.i64_in _ (by omega)
    by_cases hlast : (j : Int) = nBrk x.data.toList
    · have hle : lnE x.data.toList j = x.size := by rw [hlast, lnE_last]; exact hxl
      rw [hle]
      clear hle
      go_enter Tryz.func44, Tryz.ntmps44
      go_wp2_with fail
      refine HST.out.mono ?_
      rintro e w1 ⟨g, c, n, rfl, hn, hc1, hc2, hg, hcell, hb⟩
      have hjn : j < n := by omega
      have g1 : decide ((j : Int) + 1 < (n : Int)) = false := decide_eq_false (by omega)
      clear hcell hn h1 h2 HST hlast hbr
      go_wp2
      go_ret2
      exact ⟨rfl, hb⟩
    · have hnx := lnS_next x.data.toList j (by omega)
      have hel := lnE_le x.data.toList j
      obtain ⟨v, hv⟩ : ∃ v, lnE x.data.toList j = v := ⟨_, rfl⟩
      rw [hv] at hnx hel ⊢
      have hwv : IntKind.i64.wrap (((v + 1 : Nat) : Int) - 1) = (v : Int) := by rw [IntWalk.i64_in _ (by omega)]; omega
      go_enter Tryz.func44, Tryz.ntmps44
      go_wp2_with fail
      refine HST.out.mono ?_
      rintro e w1 ⟨g, c, n, rfl, hn, hc1, hc2, hg, hcell, hb⟩
      have hjn : j + 1 < n := by omega
      have hjn0 : j < n := by omega
      unfold maxLen at hc2
      have g1 : decide ((j : Int) + 1 < (n : Int)) = true := decide_eq_true (by omega)
      have c0 := hcell (j + 1) hjn
      rw [show ((j + 1 : Nat) : Int) = (j : Int) + 1 by omega, hnx] at c0
      clear hcell hv hn h1 h2 HST hlast hbr hnx
      go_wp2
      go_ret2
      exact ⟨rfl, hb⟩
  · rw [lnEv_no hm, hm]
    clear hm
    by_cases h0 : i < 0
    · have g0 : decide (i < 0) = true := decide_eq_true h0
      go_enter Tryz.func44, Tryz.ntmps44
      go_wp2_with fail
      refine HST.out.mono ?_
      rintro e w1 ⟨g, c, n, rfl, hn, hc1, hc2, hg, hcell, hb⟩
      clear hcell hn HST
      go_wp2
      go_ret2
      exact ⟨rfl, hb⟩
    · have g0 : decide (i < 0) = false := decide_eq_false h0
      go_enter Tryz.func44, Tryz.ntmps44
      go_wp2_with fail
      refine HST.out.mono ?_
      rintro e w1 ⟨g, c, n, rfl, hn, hc1, hc2, hg, hcell, hb⟩
      have g1 : decide ((n : Int) ≤ i) = true := decide_eq_true (by omega)
      clear hcell hn HST
      go_wp2
      go_ret2
      exact ⟨rfl, hb⟩
end Go.Proofs.YtjcmbnmejkhcjaaGreat
