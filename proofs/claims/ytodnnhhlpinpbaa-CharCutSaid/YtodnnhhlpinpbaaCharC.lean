/- Contracts: the places of a text's characters; two slices of texts held against one another. No condition but short texts. -/
import Derived.Test.YtodnnhhlpinpbaaCharB
import Derived.Deep.QuietTactic
import Derived.BigQuiet
import Derived.Deep.Draws
namespace Go.Proofs.Ytodnnhhlpinpbaa
open Go.ChangeShapes Go.WideShapes Go.ChangeAt Go.RowKit
/-- The places of what is left, the first byte of which stands at i. -/
def plGo : List UInt8 → Nat → List Nat
  | [], i => [i]
  | c :: r, i => if i = 0 ∨ contB c = false then i :: plGo r (i + 1) else plGo r (i + 1)
theorem plGo_on (l : List UInt8) (k : Nat) (h : k < l.length) (hc : k = 0 ∨ contB l[k] = false) : plGo (l.drop k) k = k :: plGo (l.drop (k + 1)) (k + 1) := by
  rw [List.drop_eq_getElem_cons h, plGo, if_pos hc]
theorem plGo_off (l : List UInt8) (k : Nat) (h : k < l.length) (h0 : ¬ k = 0) (hc : contB l[k] = true) : plGo (l.drop k) k = plGo (l.drop (k + 1)) (k + 1) := by
  rw [List.drop_eq_getElem_cons h, plGo, if_neg (by rw [hc]; simp [h0])]
theorem plGo_end (l : List UInt8) : plGo (l.drop l.length) l.length = [l.length] := by
  rw [List.drop_of_length_le (Nat.le_refl _)]; rfl
def natC (l : List Nat) : List Value := l.map fun (i : Nat) => Value.int .i64 (i : Int)
def PInv (s : ByteArray) (w : World) (v i : Value) (wr : World) : Prop :=
  ∃ (k : Nat) (ps : List Nat), i = .int .i64 k ∧ k ≤ s.size ∧ ps.length ≤ k ∧ Hid (plGo s.data.toList 0 = ps ++ plGo (s.data.toList.drop k) k) ∧ wr.ownsRow w.heap.size 3 1 v ps.length (natC ps) ∧ Below w.heap.size w wr
def PlPost (s : ByteArray) (w : World) (e : Ending) (w' : World) : Prop := ∃ (v : Value) (ps : List Nat), e = .returned v ∧ Below w.heap.size w w' ∧ w'.ownsRow w.heap.size 3 1 v ps.length (natC ps) ∧ Hid (plGo s.data.toList 0 = ps)
set_option maxRecDepth 100000 in
set_option maxHeartbeats 4000000 in
theorem places_any (s : ByteArray) (w : World) (hs : s.size ≤ 100000) :
    Calls Try.prog 13 #[.string s] w (PlPost s w) := by
  obtain ⟨i0, hi0, hz0', hz1, hz2⟩ := info_parts info_int
  go_enter Try.func13, Try.ntmps13
  go_wp2
  go_loopw [3, 7] (fun v i wr => PInv s w v i wr) (fun _ i _ => s.size - (intOf i).toNat)
  case atStart => exact ⟨0, [], rfl, Nat.zero_le _, Nat.le_refl _, hide rfl, ⟨rfl, .inl ⟨rfl, rfl⟩⟩, bl_refl w⟩
  case round =>
    obtain ⟨k, ps, rfl, hk, hpl, HP, hv, hbl⟩ := hrel
    have hbw : w.heap.size ≤ wr.heap.size := hbl.size
    by_cases hlt : k < s.size
    · have hkl : k < s.data.toList.length := by simpa using hlt
      have hsk : s.data.toList[k] = s[k] := rfl
      have FINON : (k = 0 ∨ contB s[k] = false) → ∀ (v' : Value) (W : World), W.ownsRow w.heap.size 3 1 v' (ps.length + 1) (natC ps ++ [.int .i64 (k : Int)]) → Below w.heap.size w W → PInv s w v' (.int .i64 ((k : Int) + 1)) W := fun hc v' W h1 h2 =>
        ⟨k + 1, ps ++ [k], by go_num, by omega, by simp; omega, hide (by rw [HP.out, plGo_on _ k hkl hc]; simp), by
          have e : natC (ps ++ [k]) = natC ps ++ [.int .i64 (k : Int)] := by simp [natC]
          rw [e, List.length_append]; exact h1, h2⟩
      by_cases hk0 : k = 0
      · have FO := hide (FINON (.inl hk0))
        subst hk0
        clear FINON HP
        go_wp2_with (first
          | (at_builtin; (refine wpList_push wr rfl _ _ 27 rfl w.heap.size 3 i0 (.int .i64 0) 1 8 Try.underlying27 hi0 hz0' hz1 hz2 rfl (by decide) u3 ps.length (natC ps) rfl hv 1 #[.int .i64 0] rfl rfl (by simp [Value.oneCell']) (by omega) (by decide) hbw ?_); intro v' w4 hv4 hg4 hat)
          | fail)
        have hbl4 : Below w.heap.size w w4 := bl_own hbl hv hg4 (Nat.le_refl _)
        refine ⟨?_, by first | (simp [intOf]; done) | (simp [intOf]; omega)⟩
        exact FO.out _ _ hv4 hbl4
      · have hkz : ((k : Int) == 0) = false := by simp; omega
        cases hc : contB s[k]
        · have FO := hide (FINON (.inr hc))
          have HC := hide hc
          clear FINON HP hc hsk
          go_wp2_with (first
            | (go_at_call 29; refine (contc_any s[k] _ false _ rfl HC.out).mono ?_; rintro e w1 ⟨rfl, rfl⟩)
            | (at_builtin; (refine wpList_push wr rfl _ _ 27 rfl w.heap.size 3 i0 (.int .i64 0) 1 8 Try.underlying27 hi0 hz0' hz1 hz2 rfl (by decide) u3 ps.length (natC ps) rfl hv 1 #[.int .i64 (k : Int)] rfl rfl (by simp [Value.oneCell']) (by omega) (by decide) hbw ?_); intro v' w4 hv4 hg4 hat)
            | fail)
          have hbl4 : Below w.heap.size w w4 := bl_own hbl hv hg4 (Nat.le_refl _)
          refine ⟨?_, by first | (simp [intOf]; done) | (simp [intOf]; omega)⟩
          exact FO.out _ _ hv4 hbl4
        · have HC := hide hc
          have FO : PInv s w u3 (.int .i64 ((k : Int) + 1)) wr := ⟨k + 1, ps, by go_num, by omega, by omega, hide (by rw [HP.out, plGo_off _ k hkl hk0 hc]), hv, hbl⟩
          have HF := hide FO
          clear FINON HP hc FO hsk
          go_wp2_with (go_at_call 29; refine (contc_any s[k] _ true _ rfl HC.out).mono ?_; rintro e w1 ⟨rfl, rfl⟩)
          refine ⟨?_, by first | (simp [intOf]; done) | (simp [intOf]; omega)⟩
          exact HF.out
    · have hks : k = s.size := by omega
      have hend : plGo s.data.toList 0 = ps ++ [s.size] := by
        have h1 := HP.out
        rw [hks, show plGo (s.data.toList.drop s.size) s.size = [s.size] from by have := plGo_end s.data.toList; rw [len_data] at this; exact this] at h1
        exact h1
      have HE := hide hend
      clear HP hend
      go_wp2_with (first
        | (at_builtin; (refine wpList_push wr rfl _ _ 27 rfl w.heap.size 3 i0 (.int .i64 0) 1 8 Try.underlying27 hi0 hz0' hz1 hz2 rfl (by decide) u3 ps.length (natC ps) rfl hv 1 #[.int .i64 (s.size : Int)] rfl rfl (by simp [Value.oneCell']) (by omega) (by decide) hbw ?_); intro v' w4 hv4 hg4 hat)
        | fail)
      have hbl4 : Below w.heap.size w w4 := bl_own hbl hv hg4 (Nat.le_refl _)
      have hv5 : w4.ownsRow w.heap.size 3 1 v' (ps ++ [s.size]).length (natC (ps ++ [s.size])) := by
        have e : natC (ps ++ [s.size]) = natC ps ++ [.int .i64 (s.size : Int)] := by simp [natC]
        rw [e, List.length_append]; exact hv4
      clear hv4
      go_ret
      exact ⟨_, ps ++ [s.size], rfl, hbl4, hv5, HE⟩
end Go.Proofs.Ytodnnhhlpinpbaa
