/- Contracts of tally.Upto and of the reference's counts, and what they mean. -/
import Derived.Test.YtjcmbnmejkhcjaaGreatTal
namespace Go.Proofs.YtjcmbnmejkhcjaaGreat
open Go.ChangeShapes Go.WideShapes Go.ChangeAt Go.RowKit

def cnt (way : Int) (l : List UInt8) : Int := byW l.length (nBrk l) (nRun l) (nBig l + nRun l) way
def upL (way : Int) : List UInt8 → Int → Nat
  | [], _ => 0
  | c :: r, m => if m - cnt way [c] < 0 then 0 else 1 + upL way r (m - cnt way [c])
def upto (way n : Int) (l : List UInt8) : Int := if n < 0 ∨ way < 0 ∨ 3 < way then -1 else (upL way l n : Nat)

theorem cnt_app (way : Int) (l m : List UInt8) : cnt way (l ++ m) = cnt way l + cnt way m := by
  unfold cnt byW
  rw [nBrk_app, nRun_app, nBig_app, List.length_append]
  repeat' split
  all_goals omega
theorem cnt_nil (way : Int) : cnt way [] = 0 := by
  unfold cnt byW; simp [nBrk, nRun, nBig]
theorem cnt_bd (way : Int) (l : List UInt8) : 0 ≤ cnt way l ∧ cnt way l ≤ 2 * l.length := by
  have hb := nBrk_le l
  have hr := nRun_le l
  have hg := nBig_le l
  unfold cnt byW
  repeat' split
  all_goals omega
theorem cnt_one (way : Int) (c : UInt8) : 0 ≤ cnt way [c] ∧ cnt way [c] ≤ 2 := by
  have := cnt_bd way [c]; simpa using this
theorem cnt_zero (l : List UInt8) : cnt 0 l = l.length := by unfold cnt byW; simp
theorem upL_le (way : Int) (l : List UInt8) (m : Int) : upL way l m ≤ l.length := by
  induction l generalizing m with
  | nil => simp [upL]
  | cons c r ih =>
    unfold upL
    have := ih (m - cnt way [c])
    split <;> simp <;> omega
theorem upL_zero (l : List UInt8) (m : Int) (h : 0 ≤ m) : (upL 0 l m : Int) = min m l.length := by
  induction l generalizing m with
  | nil => simp [upL]; omega
  | cons c r ih =>
    have hc : cnt 0 [c] = 1 := by rw [cnt_zero]; rfl
    unfold upL
    rw [hc]
    by_cases h1 : m - 1 < 0
    · rw [if_pos h1]; simp; omega
    · rw [if_neg h1]
      have := ih (m - 1) (by omega)
      simp; omega
theorem drop_cons (s : ByteArray) (k : Nat) (h : k < s.size) : s.data.toList.drop k = s[k] :: s.data.toList.drop (k + 1) := by
  rw [List.drop_eq_getElem_cons (by simpa using h)]; rfl
theorem ext_one (s : ByteArray) (k : Nat) (h : k < s.size) : (s.extract k (k + 1)).data.toList = [s[k]] := by
  have h' : k < s.data.size := h
  rw [ByteArray.data_extract]
  simp only [Array.toList_extract, List.extract_eq_take_drop]
  rw [drop_cons s k h]
  simp
theorem upL_stop (way : Int) (s : ByteArray) (k : Nat) (h : k < s.size) (m : Int) (hm : m - cnt way [s[k]] < 0) : upL way (s.data.toList.drop k) m = 0 := by
  rw [drop_cons s k h, upL, if_pos hm]
theorem upL_go (way : Int) (s : ByteArray) (k : Nat) (h : k < s.size) (m : Int) (hm : ¬ m - cnt way [s[k]] < 0) : upL way (s.data.toList.drop k) m = 1 + upL way (s.data.toList.drop (k + 1)) (m - cnt way [s[k]]) := by
  rw [drop_cons s k h, upL, if_neg hm]
theorem upL_end (way : Int) (s : ByteArray) (m : Int) : upL way (s.data.toList.drop s.size) m = 0 := by
  rw [List.drop_of_length_le (by simp)]; rfl

theorem bytal_any (l : List UInt8) (way : Int) (w : World) :
    Calls Tryz.prog 89 #[talOf l, .int .i64 way] w fun e w' => e = .returned (.int .i64 (cnt way l)) ∧ Below w.heap.size w w' := by_any _ _ _ _ way w
theorem rbytal_any (l : List UInt8) (way : Int) (w : World) :
    Calls Tryz.prog 73 #[talOf l, .int .i64 way] w fun e w' => e = .returned (.int .i64 (cnt way l)) ∧ Below w.heap.size w w' := rby_any _ _ _ _ way w

set_option maxRecDepth 100000 in
set_option maxHeartbeats 400000 in
theorem uptoA (s : ByteArray) (way n : Int) (w : World) (hs : s.size ≤ 100000000) (h0 : 0 ≤ n) (hn : n ≤ 9223372036854775807) (h1 : 1 ≤ way) (h2 : way ≤ 3) :
    Calls Tryz.prog 86 #[.string s, .int .i64 way, .int .i64 n] w fun e w' => e = .returned (.int .i64 (upL way s.data.toList n)) ∧ Below w.heap.size w w' := by
  have z1 : (way == 0) = false := by simp; omega
  go_enter Tryz.func86, Tryz.ntmps86
  go_wp2
  go_loopw [2, 26] (fun m i wr => ∃ (k : Nat) (m' : Int), k ≤ s.size ∧ i = .int .i64 k ∧ m = .int .i64 m' ∧ 0 ≤ m' ∧ m' ≤ n ∧ Hid (upL way s.data.toList n = k + upL way (s.data.toList.drop k) m') ∧ Below w.heap.size w wr)
    (fun _ i _ => s.size - (intOf i).toNat)
  case atStart => exact ⟨0, n, Nat.zero_le _, rfl, rfl, h0, Int.le_refl _, (by simp [Hid]), bl_refl _⟩
  case round =>
    obtain ⟨k, m', hk, rfl, rfl, hm, hmn, HU, hb⟩ := hrel
    by_cases hlt : k < s.size
    · have hc1 := cnt_one way s[k]
      have HE := hide (ext_one s k hlt)
      go_wp2_with fail
      refine (of_any (s.extract k (k + 1)) wr (by simp; omega)).mono ?_
      rintro e w1 ⟨rfl, hb1⟩
      rw [HE.out]
      go_wp2_with fail
      refine (bytal_any _ way w1).mono ?_
      rintro e w2 ⟨rfl, hb2⟩
      go_wp2
      · have hq : m' - cnt way [s[k]] < 0 := by omega
        go_ret
        exact ⟨ret_int (by rw [HU.out, upL_stop way s k hlt m' hq]; simp), bl_trans (bl_trans hb hb1) hb2⟩
      · have hq : ¬ m' - cnt way [s[k]] < 0 := by omega
        have HU2 : Hid (upL way s.data.toList n = (k + 1) + upL way (s.data.toList.drop (k + 1)) (m' - cnt way [s[k]])) := hide (by rw [HU.out, upL_go way s k hlt m' hq]; omega)
        refine ⟨?_, by simp [intOf]; omega⟩
        first
          | exact ⟨k + 1, m' - cnt way [s[k]], by omega, by go_num, rfl, by omega, by omega, HU2, bl_trans (bl_trans hb hb1) hb2⟩
          | ((repeat apply Exists.intro); exact ⟨⟨k + 1, m' - cnt way [s[k]], by omega, by go_num, rfl, by omega, by omega, HU2, bl_trans (bl_trans hb hb1) hb2⟩, rfl⟩)
    · obtain rfl : k = s.size := by omega
      go_wp2
      go_ret
      exact ⟨ret_int (by rw [HU.out, upL_end]; simp), hb⟩

set_option maxRecDepth 100000 in
set_option maxHeartbeats 400000 in
theorem upto_any (s : ByteArray) (way n : Int) (w : World) (hs : s.size ≤ 100000000) (hn : n ≤ 9223372036854775807) :
    Calls Tryz.prog 86 #[.string s, .int .i64 way, .int .i64 n] w fun e w' => e = .returned (.int .i64 (upto way n s.data.toList)) ∧ Below w.heap.size w w' := by
  by_cases c1 : n < 0
  · have hu : upto way n s.data.toList = -1 := by unfold upto; rw [if_pos (.inl c1)]
    rw [hu]; clear hu
    go_enter Tryz.func86, Tryz.ntmps86
    go_wp2
    go_ret
    exact ⟨rfl, bl_refl _⟩
  · by_cases c2 : way < 0
    · have hu : upto way n s.data.toList = -1 := by unfold upto; rw [if_pos (.inr (.inl c2))]
      rw [hu]; clear hu
      go_enter Tryz.func86, Tryz.ntmps86
      go_wp2
      go_ret
      exact ⟨rfl, bl_refl _⟩
    · by_cases c3 : 3 < way
      · have hu : upto way n s.data.toList = -1 := by unfold upto; rw [if_pos (.inr (.inr c3))]
        rw [hu]; clear hu
        go_enter Tryz.func86, Tryz.ntmps86
        go_wp2
        go_ret
        exact ⟨rfl, bl_refl _⟩
      · have hu : upto way n s.data.toList = upL way s.data.toList n := by unfold upto; rw [if_neg (by omega)]
        rw [hu]; clear hu
        by_cases c4 : way = 0
        · subst c4
          rw [upL_zero _ _ (by omega), len_data]
          go_enter Tryz.func86, Tryz.ntmps86
          go_wp2
          all_goals
            go_ret
            exact ⟨ret_int (by omega), bl_refl _⟩
        · exact uptoA s way n w hs (by omega) hn (by omega) (by omega)
end Go.Proofs.YtjcmbnmejkhcjaaGreat
