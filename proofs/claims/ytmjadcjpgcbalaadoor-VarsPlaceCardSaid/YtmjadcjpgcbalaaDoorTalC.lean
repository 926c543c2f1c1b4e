/- Contracts of the reference's Of and Upto, and of the layer's awake. -/
import Derived.Test.YtmjadcjpgcbalaaDoorTalB
import Derived.Test.YtmjadcjpgcbalaaDoorLow
namespace Go.Proofs.YtmjadcjpgcbalaaDoor
open Go.ChangeShapes Go.WideShapes Go.ChangeAt Go.RowKit

set_option maxRecDepth 100000 in
set_option maxHeartbeats 400000 in
theorem rof_any (s : ByteArray) (w : World) (hs : s.size ≤ 100000000) :
    Calls Tryd.prog 72 #[.string s] w fun e w' => e = .returned (talOf s.data.toList) ∧ Below w.heap.size w w' := by
  go_enter Tryd.func72, Tryd.ntmps72
  go_wp2
  go_loopw [4] (fun i wr => ∃ k : Nat, k ≤ s.size ∧ i = .int .i64 k ∧ wr = tw w 107 k (nBrk (s.data.toList.take k)) (nRun (s.data.toList.take k)) (nBig (s.data.toList.take k) + nRun (s.data.toList.take k)))
    (fun i _ => s.size - (intOf i).toNat)
  case atStart => exact ⟨0, Nat.zero_le _, rfl, rfl⟩
  case round =>
    obtain ⟨k, hk, rfl, rfl⟩ := hrel
    obtain ⟨b1, b2, b3, b4, b5, b6⟩ := bd_of s k hs hk
    unfold tw
    by_cases hlt : k < s.size
    · have HS := hide (take_snoc s k hlt)
      have hc : (s[k].toNat : Int) < 256 := by have := s[k].toNat_lt; omega
      by_cases hd : s[k].toNat < 128 ∨ 191 < s[k].toNat
      · have HL : leadB (s[k].toNat : Int) = true := by unfold leadB; simp; omega
        go_wp2_with (go_at_call 86; refine (lead_any _ _ (by omega) hc).mono ?_; rintro e w' ⟨rfl, rfl⟩)
        all_goals
          go_roundw
          case rel =>
            refine ⟨k + 1, by omega, by go_num, ?_⟩
            rw [HS.out, nBrk_snoc, nRun_snoc, nBig_snoc, if_pos hd]
            refine tw_congr rfl ?_ ?_ ?_
            all_goals first
              | (split <;> omega)
              | omega
              | (have q := of_beq_t (a := (s[k].toNat : Int)) (b := 10) (by assumption); split <;> omega)
              | (have q := of_beq_f (a := (s[k].toNat : Int)) (b := 10) (by assumption); split <;> omega)
          case measure => simp [intOf]; omega
      · have HL : leadB (s[k].toNat : Int) = false := by unfold leadB; simp; omega
        go_wp2_with (go_at_call 86; refine (lead_any _ _ (by omega) hc).mono ?_; rintro e w' ⟨rfl, rfl⟩)
        all_goals
          go_roundw
          case rel =>
            refine ⟨k + 1, by omega, by go_num, ?_⟩
            rw [HS.out, nBrk_snoc, nRun_snoc, nBig_snoc, if_neg hd]
            refine tw_congr rfl ?_ ?_ ?_
            all_goals first
              | (split <;> omega)
              | omega
              | (have q := of_beq_t (a := (s[k].toNat : Int)) (b := 10) (by assumption); split <;> omega)
              | (have q := of_beq_f (a := (s[k].toNat : Int)) (b := 10) (by assumption); split <;> omega)
          case measure => simp [intOf]; omega
    · obtain rfl : k = s.size := by omega
      rw [take_all] at b1 b2 b3 b4 b5 b6 ⊢
      go_wp2
      exact bodyPost_ret (v := .agg #[.int .i64 s.size, .int .i64 (nBrk s.data.toList), .int .i64 (nRun s.data.toList), .int .i64 (nBig s.data.toList + nRun s.data.toList)]) (by simp [results, Tryd.results72, go_sem]) rfl ⟨by simp [talOf], bl_alloc (bl_alloc (bl_refl _) _) _⟩

theorem tal_ex : talOf [97, 10, 240, 159, 152, 128] = .agg #[.int .i64 6, .int .i64 1, .int .i64 3, .int .i64 4] := by kernel_rfl
theorem upto_ex : upto 3 0 [97, 10, 98] = 1 := by decide +kernel
end Go.Proofs.YtmjadcjpgcbalaaDoor
