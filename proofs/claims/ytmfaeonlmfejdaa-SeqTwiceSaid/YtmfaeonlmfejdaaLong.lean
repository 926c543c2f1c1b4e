/- Contract of gimletlaw0.Long: do texts have more than n bytes together, one for each of them too? -/
import Derived.Test.YtmfaeonlmfejdaaRows
import Derived.Test.YtmfaeonlmfejdaaArgs
namespace Go.Proofs.Ytmfaeonlmfejdaa
open Go.ChangeShapes Go.WideShapes Go.ChangeAt Go.RowKit

def longL : Int → List ByteArray → Bool
  | _, [] => false
  | n, s :: r => if n ≤ s.size then true else longL (n - s.size - 1) r
def tot : List ByteArray → Nat
  | [] => 0
  | s :: r => s.size + tot r
theorem tot_le : ∀ (l : List ByteArray) (n : Int), 0 ≤ n → longL n l = false → (tot l : Int) ≤ n
  | [], n, h0, _ => by simpa [tot] using h0
  | s :: r, n, h0, h => by
    unfold longL at h
    by_cases hc : n ≤ s.size
    · rw [if_pos hc] at h; cases h
    · rw [if_neg hc] at h
      have := tot_le r (n - s.size - 1) (by omega) h
      unfold tot; omega
theorem long_end (z : List ByteArray) (n : Int) : longL n (z.drop z.length) = false := by rw [List.drop_of_length_le (Nat.le_refl _)]; rfl
theorem long_yes (z : List ByteArray) (n : Int) (k : Nat) (h : k < z.length) (hc : n ≤ (z.getD k ByteArray.empty).size) : longL n (z.drop k) = true := by
  have e : z.getD k ByteArray.empty = z[k] := by simp [List.getD, h]
  rw [e] at hc
  rw [List.drop_eq_getElem_cons h, longL, if_pos hc]
theorem long_no (z : List ByteArray) (n : Int) (k : Nat) (h : k < z.length) (hc : ¬ n ≤ (z.getD k ByteArray.empty).size) : longL n (z.drop k) = longL (n - (z.getD k ByteArray.empty).size - 1) (z.drop (k + 1)) := by
  have e : z.getD k ByteArray.empty = z[k] := by simp [List.getD, h]
  rw [e] at hc ⊢
  rw [List.drop_eq_getElem_cons h, longL, if_neg hc]
set_option maxRecDepth 100000 in
set_option maxHeartbeats 1000000 in
theorem long_any (w : World) (n : Int) (a : Option Addr) (len cap : Nat) (z : List ByteArray) (h : IsStrs w a len cap z) (hn : 0 ≤ n) (hn2 : n ≤ 1000000) :
    Calls Try.prog 25 #[.int .i64 n, .slice a len cap] w fun e w' => e = .returned (.bool (longL n (z.take len))) ∧ w = w' := by
  have hlen := strs_len h
  have hcell : 0 < len → ∃ b off, a = some ⟨b, off, none⟩ ∧ len ≤ cap ∧ cap ≤ maxLen ∧ (∀ i, i < len → w.cell? ⟨b, off + i, none⟩ = some (.string ((z.take len).getD i ByteArray.empty))) := fun hp => by
    obtain ⟨b, off, h1, h2, h3, h4, h5⟩ := strs_cell h hp
    exact ⟨b, off, h1, h3, h4, fun i hi => by rw [getD_take z len i _ hi]; exact h5 i (by omega)⟩
  have hzl : (z.take len).length = len := by simp; omega
  have hlc : len ≤ 9223372036854775807 := by
    rcases h with ⟨_, rfl, _⟩ | ⟨x, _, h1, h2, _⟩
    · omega
    · unfold maxLen at h2; omega
  generalize z.take len = zs at *
  have HC := hide hcell
  have HZ := hide hzl
  clear hcell hzl h hlen
  go_enter Try.func25, Try.ntmps25
  go_wp2
  go_loop [0, 5] (fun m i => ∃ (k : Nat) (m' : Int), k ≤ len ∧ i = .int .i64 k ∧ m = .int .i64 m' ∧ 0 ≤ m' ∧ m' ≤ n ∧ Hid (longL n zs = longL m' (zs.drop k)))
    (fun _ i => len - (intOf i).toNat)
  case atStart => exact ⟨0, n, Nat.zero_le _, rfl, rfl, hn, Int.le_refl _, hide rfl⟩
  case round =>
    obtain ⟨k, m', hk, rfl, rfl, hm0, hmn, HL⟩ := hrel
    by_cases hlt : k < len
    · obtain ⟨b, off, rfl, hc1, hc2, hc3⟩ := HC.out (by omega)
      have hc := hc3 k hlt
      unfold maxLen at hc2
      clear hc3
      have HY := hide (long_yes zs m' k (by rw [HZ.out]; exact hlt))
      have HN := hide (long_no zs m' k (by rw [HZ.out]; exact hlt))
      generalize zs.getD k ByteArray.empty = s at *
      by_cases hge : m' ≤ s.size
      · go_wp2
        go_ret
        exact ⟨ret_bool (by rw [HL.out, HY.out (by omega)]), rfl⟩
      · go_wp2
        have HL2 := hide ((HL.out).trans (HN.out (by omega)))
        refine ⟨?_, by simp [intOf]; omega⟩
        exact ⟨k + 1, _, by omega, by go_num, rfl, by omega, by omega, HL2⟩
    · go_wp2
      go_ret
      obtain rfl : k = len := by omega
      exact ⟨ret_bool (by rw [HL.out, ← HZ.out, long_end]), rfl⟩
end Go.Proofs.Ytmfaeonlmfejdaa
