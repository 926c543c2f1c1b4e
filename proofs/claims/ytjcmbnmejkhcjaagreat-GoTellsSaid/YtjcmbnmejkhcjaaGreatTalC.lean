/- Contracts of the reference's Of and Upto, and of the layer's awake. -/
import Derived.Test.YtjcmbnmejkhcjaaGreatTalB
import Derived.Test.YtjcmbnmejkhcjaaGreatLow
namespace Go.Proofs.YtjcmbnmejkhcjaaGreat
open Go.ChangeShapes Go.WideShapes Go.ChangeAt Go.RowKit

set_option maxRecDepth 100000 in
set_option maxHeartbeats 400000 in
theorem rof_any (s : ByteArray) (w : World) (hs : s.size ≤ 100000000) :
    Calls Tryz.prog 72 #[.string s] w fun e w' => e = .returned (talOf s.data.toList) ∧ Below w.heap.size w w' := by
  go_enter Tryz.func72, Tryz.ntmps72
  go_wp2
  go_loopw [4] (fun i wr => ∃ k : Nat, k ≤ s.size ∧ i = .int .i64 k ∧ wr = tw w 109 k (nBrk (s.data.toList.take k)) (nRun (s.data.toList.take k)) (nBig (s.data.toList.take k) + nRun (s.data.toList.take k)))
    (fun i _ => s.size - (intOf i).toNat)
  case atStart => exact ⟨0, Nat.zero_le _, rfl, rfl⟩
  case round =>
    obtain ⟨k, hk, rfl, rfl⟩ := hrel
    obtain ⟨b1, b2, b3, b4, b5, b6⟩ := bd_of s k hs hk
    unfold tw
    by_cases hlt : k < s.size
    · have HS := hide (take_snoc s k hlt)
      have hc : (s[k].toNat : Int) < 256 := by have := s[k].toNat_lt; omega
      by_cases hd : s[k].toNat < 128 ∨ 191 < s[k].toNat
      · have HL : leadB (s[k].toNat : Int) = true := by unfold leadB; simp; omega
        go_wp2_with (go_at_call 74; refine (lead_any _ _ (by omega) hc).mono ?_; rintro e w' ⟨rfl, rfl⟩)
        all_goals
          go_roundw
          case rel =>
            refine ⟨k + 1, by omega, by go_num, ?_⟩
            rw [HS.out, nBrk_snoc, nRun_snoc, nBig_snoc, if_pos hd]
            refine tw_congr rfl ?_ ?_ ?_
            all_goals first
              | (split <;> omega)
              | omega
              | (have q := of_beq_t (a := (s[k].toNat : Int)) (b := 10) (by assumption); split <;> omega)
              | (have q := of_beq_f (a := (s[k].toNat : Int)) (b := 10) (by assumption); split <;> omega)
          case measure => simp [intOf]; omega
      · have HL : leadB (s[k].toNat : Int) = false := by unfold leadB; simp; omega
        go_wp2_with (go_at_call 74; refine (lead_any _ _ (by omega) hc).mono ?_; rintro e w' ⟨rfl, rfl⟩)
        all_goals
          go_roundw
          case rel =>
            refine ⟨k + 1, by omega, by go_num, ?_⟩
            rw [HS.out, nBrk_snoc, nRun_snoc, nBig_snoc, if_neg hd]
            refine tw_congr rfl ?_ ?_ ?_
            all_goals first
              | (split <;> omega)
              | omega
              | (have q := of_beq_t (a := (s[k].toNat : Int)) (b := 10) (by assumption); split <;> omega)
              | (have q := of_beq_f (a := (s[k].toNat : Int)) (b := 10) (by assumption); split <;> omega)
          case measure => simp [intOf]; omega
    · obtain rfl : k = s.size := by omega
      rw [take_all] at b1 b2 b3 b4 b5 b6 ⊢
      go_wp2
      exact bodyPost_ret (v := .agg #[.int .i64 s.size, .int .i64 (nBrk s.data.toList), .int .i64 (nRun s.data.toList), .int .i64 (nBig s.data.toList + nRun s.data.toList)]) (by simp [results, Tryz.results72, go_sem]) rfl ⟨by simp [talOf], bl_alloc (bl_alloc (bl_refl _) _) _⟩

set_option maxRecDepth 100000 in
set_option maxHeartbeats 400000 in
theorem ruptoA (s : ByteArray) (way n : Int) (w : World) (hs : s.size ≤ 100000000) (h0 : 0 ≤ n) (hn : n ≤ 9223372036854775807) (h1 : 0 ≤ way) (h2 : way ≤ 3) :
    Calls Tryz.prog 76 #[.string s, .int .i64 way, .int .i64 n] w fun e w' => e = .returned (.int .i64 (upL way s.data.toList n)) ∧ Below w.heap.size w w' := by
  go_enter Tryz.func76, Tryz.ntmps76
  go_wp2
  go_loopw [7, 8] (fun m i wr => ∃ (k : Nat) (m' : Int), k ≤ s.size ∧ i = .int .i64 k ∧ m = .int .i64 m' ∧ 0 ≤ m' ∧ m' ≤ 2 * k ∧ m' ≤ n ∧ Hid (upL way s.data.toList n = k + upL way (s.data.toList.drop k) (n - m')) ∧ Below w.heap.size w wr)
    (fun _ i _ => s.size - (intOf i).toNat)
  case atStart => exact ⟨0, 0, Nat.zero_le _, rfl, rfl, Int.le_refl _, Int.le_refl _, h0, (by simp [Hid]), bl_refl _⟩
  case round =>
    obtain ⟨k, m', hk, rfl, rfl, hm, hmk, hmn, HU, hb⟩ := hrel
    by_cases hlt : k < s.size
    · have hc1 := cnt_one way s[k]
      have HE := hide (ext_one s k hlt)
      go_wp2_with fail
      refine (rof_any (s.extract k (k + 1)) wr (by simp; omega)).mono ?_
      rintro e w1 ⟨rfl, hb1⟩
      rw [HE.out]
      go_wp2_with fail
      refine (rbytal_any _ way w1).mono ?_
      rintro e w2 ⟨rfl, hb2⟩
      by_cases hq : n - m' - cnt way [s[k]] < 0
      · go_wp2
        go_ret
        exact ⟨ret_int (by rw [HU.out, upL_stop way s k hlt (n - m') (by omega)]; simp), bl_trans (bl_trans hb hb1) hb2⟩
      · go_wp2
        have HU2 : Hid (upL way s.data.toList n = (k + 1) + upL way (s.data.toList.drop (k + 1)) (n - (m' + cnt way [s[k]]))) := hide (by
          rw [HU.out, upL_go way s k hlt (n - m') (by omega), show n - (m' + cnt way [s[k]]) = n - m' - cnt way [s[k]] by omega]; omega)
        refine ⟨?_, by simp [intOf]; omega⟩
        first
          | exact ⟨k + 1, m' + cnt way [s[k]], by omega, by go_num, rfl, by omega, by omega, by omega, HU2, bl_trans (bl_trans hb hb1) hb2⟩
          | ((repeat apply Exists.intro); exact ⟨⟨k + 1, m' + cnt way [s[k]], by omega, by go_num, rfl, by omega, by omega, by omega, HU2, bl_trans (bl_trans hb hb1) hb2⟩, rfl⟩)
    · obtain rfl : k = s.size := by omega
      go_wp2
      go_ret
      exact ⟨ret_int (by rw [HU.out, upL_end]; simp), hb⟩

set_option maxRecDepth 100000 in
set_option maxHeartbeats 400000 in
theorem rupto_any (s : ByteArray) (way n : Int) (w : World) (hs : s.size ≤ 100000000) (hn : n ≤ 9223372036854775807) :
    Calls Tryz.prog 76 #[.string s, .int .i64 way, .int .i64 n] w fun e w' => e = .returned (.int .i64 (upto way n s.data.toList)) ∧ Below w.heap.size w w' := by
  by_cases c1 : n < 0
  · have hu : upto way n s.data.toList = -1 := by unfold upto; rw [if_pos (.inl c1)]
    rw [hu]; clear hu
    go_enter Tryz.func76, Tryz.ntmps76
    go_wp2
    go_ret
    exact ⟨rfl, bl_refl _⟩
  · by_cases c2 : way < 0
    · have hu : upto way n s.data.toList = -1 := by unfold upto; rw [if_pos (.inr (.inl c2))]
      rw [hu]; clear hu
      go_enter Tryz.func76, Tryz.ntmps76
      go_wp2
      go_ret
      exact ⟨rfl, bl_refl _⟩
    · by_cases c3 : 3 < way
      · have hu : upto way n s.data.toList = -1 := by unfold upto; rw [if_pos (.inr (.inr c3))]
        rw [hu]; clear hu
        go_enter Tryz.func76, Tryz.ntmps76
        go_wp2
        go_ret
        exact ⟨rfl, bl_refl _⟩
      · have hu : upto way n s.data.toList = upL way s.data.toList n := by unfold upto; rw [if_neg (by omega)]
        rw [hu]; clear hu
        exact ruptoA s way n w hs (by omega) hn (by omega) (by omega)

theorem tal_ex : talOf [97, 10, 240, 159, 152, 128] = .agg #[.int .i64 6, .int .i64 1, .int .i64 3, .int .i64 4] := by kernel_rfl
theorem upto_ex : upto 3 0 [97, 10, 98] = 1 := by decide +kernel
end Go.Proofs.YtjcmbnmejkhcjaaGreat
