/- Contract of the reference's Split: the characters of a text. No condition but short texts. -/
import Derived.Test.YtodnnhhlpinpbaaCharD
namespace Go.Proofs.Ytodnnhhlpinpbaa
open Go.ChangeShapes Go.WideShapes Go.ChangeAt Go.RowKit
set_option maxRecDepth 100000 in
set_option maxHeartbeats 1000000 in
theorem lead_any (c : UInt8) (w : World) : Calls Try.prog 28 #[.int .u8 (c.toNat : Int)] w fun e w' => e = .returned (.bool (!contB c)) ∧ w = w' := by
  have hc : (c.toNat : Int) < 256 := by have := c.toNat_lt; omega
  have HW : Hid (contB c = decide (128 ≤ c.toNat ∧ c.toNat ≤ 191)) := hide rfl
  generalize contB c = b at *
  generalize c.toNat = n at *
  go_enter Try.func28, Try.ntmps28
  go_wp2
  all_goals
    go_ret
    exact ⟨ret_bool (by rw [HW.out, Bool.eq_iff_iff]; first | (simp; done) | (simp; omega) | omega), rfl⟩
theorem leade_any (c : UInt8) (n : Int) (b : Bool) (w : World) (hn : (c.toNat : Int) = n) (hb : contB c = b) : Calls Try.prog 28 #[.int .u8 n] w fun e w' => e = .returned (.bool (!b)) ∧ w = w' := by
  rw [← hn, ← hb]; exact lead_any c w
structure SIn (l : List UInt8) (n k a : Nat) (ws : List (List UInt8)) : Prop where
  said : splitL l = ws ++ splitL (l.drop a)
  here : k ≤ n → a < k ∧ k - a ≤ firstN (l.drop a)
  gone : k = n + 1 → a = n
theorem sin_start (l : List UInt8) : SIn l l.length 1 0 [] :=
  ⟨rfl, fun h => ⟨by omega, by rw [List.drop_zero]; exact firstN_pos l (by omega)⟩, fun h => by omega⟩
theorem sin_cont {l : List UInt8} {k a : Nat} {ws : List (List UInt8)} (h : SIn l l.length k a ws) (hk : k < l.length) (hc : contB l[k] = true) : SIn l l.length (k + 1) a ws := by
  obtain ⟨h1, h2⟩ := h.here (by omega)
  have h3 := fn_step (l.drop a) (k - a) (by omega) (by rw [List.length_drop]; omega) h2 (by rw [List.getElem_drop]; simpa [show a + (k - a) = k by omega] using hc)
  exact ⟨h.said, fun _ => ⟨by omega, by omega⟩, fun e => by omega⟩
theorem sin_cut {l : List UInt8} {k a : Nat} {ws : List (List UInt8)} (h : SIn l l.length k a ws) (hk : k ≤ l.length) (h1 : a < k) (hf : firstN (l.drop a) = k - a) : SIn l l.length (k + 1) k (ws ++ [(l.take k).drop a]) := by
  have hs := splitL_eq (l.drop a) (by rw [List.length_drop]; omega)
  rw [hf, List.drop_drop, show a + (k - a) = k by omega] at hs
  refine ⟨?_, fun h2 => ⟨by omega, ?_⟩, fun e => by omega⟩
  · rw [h.said, hs, List.drop_take]; simp
  · have : k + 1 - k = 1 := by omega
    rw [this]
    exact firstN_pos _ (by rw [List.length_drop]; omega)
theorem sin_lead {l : List UInt8} {k a : Nat} {ws : List (List UInt8)} (h : SIn l l.length k a ws) (hk : k < l.length) (hc : contB l[k] = false) : SIn l l.length (k + 1) k (ws ++ [(l.take k).drop a]) := by
  obtain ⟨h1, h2⟩ := h.here (by omega)
  have h3 := fn_end (l.drop a) (k - a) (by omega) (by rw [List.length_drop]; omega) h2 (by rw [List.getElem_drop]; simpa [show a + (k - a) = k by omega] using hc)
  exact sin_cut h (by omega) h1 h3
theorem sin_last {l : List UInt8} {a : Nat} {ws : List (List UInt8)} (h : SIn l l.length l.length a ws) : SIn l l.length (l.length + 1) l.length (ws ++ [(l.take l.length).drop a]) := by
  obtain ⟨h1, h2⟩ := h.here (Nat.le_refl _)
  have h3 := firstN_le (l.drop a)
  rw [List.length_drop] at h3
  exact sin_cut h (Nat.le_refl _) h1 (by omega)
def SRel (s : ByteArray) (w : World) (v f i : Value) (wr : World) : Prop :=
  ∃ (k a : Nat) (zs : List ByteArray), i = .int .i64 k ∧ f = .int .i64 a ∧ k ≤ s.size + 1 ∧ 1 ≤ k ∧ a ≤ s.size ∧ (k ≤ s.size → a < k) ∧ zs.length ≤ k ∧ Hid (SIn s.data.toList s.data.toList.length k a (zs.map fun z => z.data.toList)) ∧ wr.ownsRow w.heap.size 9 1 v zs.length (zs.map .string) ∧ Below w.heap.size w wr
def SPost (s : ByteArray) (w : World) (e : Ending) (w' : World) : Prop := ∃ (v : Value) (zs : List ByteArray), e = .returned v ∧ Below w.heap.size w w' ∧ w'.ownsRow w.heap.size 9 1 v zs.length (zs.map .string) ∧ Hid (zs.map (fun z => z.data.toList) = splitL s.data.toList)
set_option maxRecDepth 100000 in
set_option maxHeartbeats 4000000 in
theorem rsplit_any (s : ByteArray) (w : World) (hs : s.size ≤ 100000) :
    Calls Try.prog 9 #[.string s] w (SPost s w) := by
  obtain ⟨i0, hi0, hz0', hz1, hz2⟩ := info_parts info_str
  go_enter Try.func9, Try.ntmps9
  go_wp2
  go_loopw [3, 4, 5] (fun v f i wr => SRel s w v f i wr) (fun _ _ i _ => s.size + 1 - (intOf i).toNat)
  case atStart => exact ⟨1, 0, [], rfl, rfl, by omega, Nat.le_refl _, Nat.zero_le _, fun _ => by omega, Nat.zero_le _, hide (sin_start _), ⟨rfl, .inl ⟨rfl, rfl⟩⟩, bl_refl w⟩
  case round =>
    obtain ⟨k, a, zs, rfl, rfl, hk, hk1, has, hak, hzl, HI, hv, hbl⟩ := hrel
    have hbw : w.heap.size ≤ wr.heap.size := hbl.size
    by_cases hle : k ≤ s.size
    · have ha := hak hle
      have FIN : SIn s.data.toList s.data.toList.length (k + 1) k ((zs.map fun z => z.data.toList) ++ [(s.data.toList.take k).drop a]) → ∀ (v' : Value) (W : World), W.ownsRow w.heap.size 9 1 v' (zs.length + 1) (zs.map .string ++ [.string (s.extract a k)]) → Below w.heap.size w W → SRel s w v' (.int .i64 k) (.int .i64 ((k : Int) + 1)) W := fun h v' W h1 h2 =>
        ⟨k + 1, k, zs ++ [s.extract a k], by go_num, rfl, by omega, by omega, hle, fun _ => by omega, by simp; omega, hide (by rw [List.map_append, List.map_singleton, ext_data]; exact h), by
          rw [List.map_append, List.length_append]; exact h1, h2⟩
      by_cases heq : k = s.size
      · have hx : SIn s.data.toList s.data.toList.length (k + 1) k ((zs.map fun z => z.data.toList) ++ [(s.data.toList.take k).drop a]) := by
          have e : k = s.data.toList.length := by rw [len_data]; exact heq
          have h := HI.out
          rw [e] at h ⊢
          exact sin_last h
        have FO := hide (FIN hx)
        clear FIN hx HI
        subst heq
        have hke : ((s.size : Int) == (s.size : Int)) = true := by simp
        go_wp2_with (first
          | (at_builtin; (refine wpList_push wr rfl _ _ 23 rfl w.heap.size 9 i0 (.string ⟨#[]⟩) 1 16 Try.underlying23 hi0 hz0' hz1 hz2 rfl (by decide) u3 zs.length (zs.map .string) rfl hv 1 #[.string (s.extract a s.size)] rfl rfl (by simp [Value.oneCell']) (by omega) (by decide) hbw ?_); intro v' w4 hv4 hg4 hat)
          | fail)
        have hbl4 : Below w.heap.size w w4 := bl_own hbl hv hg4 (Nat.le_refl _)
        refine ⟨?_, by first | (simp [intOf]; done) | (simp [intOf]; omega)⟩
        exact FO.out _ _ hv4 hbl4
      · have hlt : k < s.size := by omega
        have hkl : k < s.data.toList.length := by simpa using hlt
        have hsk : s.data.toList[k] = s[k] := rfl
        have hke : ((k : Int) == (s.size : Int)) = false := by simp; omega
        cases hc : contB s[k]
        · have FO := hide (FIN (sin_lead HI.out hkl hc))
          have HC := hide hc
          clear FIN HI hc hsk
          go_wp2_with (first
            | (go_at_call 28; refine (leade_any s[k] _ false _ rfl HC.out).mono ?_; rintro e w1 ⟨rfl, rfl⟩)
            | (at_builtin; (refine wpList_push wr rfl _ _ 23 rfl w.heap.size 9 i0 (.string ⟨#[]⟩) 1 16 Try.underlying23 hi0 hz0' hz1 hz2 rfl (by decide) u3 zs.length (zs.map .string) rfl hv 1 #[.string (s.extract a k)] rfl rfl (by simp [Value.oneCell']) (by omega) (by decide) hbw ?_); intro v' w4 hv4 hg4 hat)
            | fail)
          have hbl4 : Below w.heap.size w w4 := bl_own hbl hv hg4 (Nat.le_refl _)
          refine ⟨?_, by first | (simp [intOf]; done) | (simp [intOf]; omega)⟩
          exact FO.out _ _ hv4 hbl4
        · have FO : SRel s w u3 (.int .i64 a) (.int .i64 ((k : Int) + 1)) wr := ⟨k + 1, a, zs, by go_num, rfl, by omega, by omega, has, fun _ => by omega, by omega, hide (sin_cont HI.out hkl hc), hv, hbl⟩
          have HF := hide FO
          have HC := hide hc
          clear FIN HI hc FO hsk
          go_wp2_with (go_at_call 28; refine (leade_any s[k] _ true _ rfl HC.out).mono ?_; rintro e w1 ⟨rfl, rfl⟩)
          refine ⟨?_, by first | (simp [intOf]; done) | (simp [intOf]; omega)⟩
          exact HF.out
    · have hks : k = s.size + 1 := by omega
      have hsaid : zs.map (fun z => z.data.toList) = splitL s.data.toList := by
        have h1 := HI.out.gone (by rw [len_data]; exact hks)
        have h2 := HI.out.said
        rw [h1, List.drop_of_length_le (Nat.le_refl _)] at h2
        rw [h2]; simp [splitL]
      have HS := hide hsaid
      clear HI hsaid hak
      go_wp2
      go_ret
      exact ⟨_, zs, rfl, hbl, hv, HS⟩
end Go.Proofs.Ytodnnhhlpinpbaa
