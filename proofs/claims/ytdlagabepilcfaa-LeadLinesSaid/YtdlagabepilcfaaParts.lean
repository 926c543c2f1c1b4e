/- Contract of the law's own parts: a text's lines. -/
import Derived.Test.YtdlagabepilcfaaLeadB
namespace Go.Proofs.Ytdlagabepilcfaa
open Go.ChangeShapes Go.WideShapes Go.ChangeAt Go.RowKit
def sp : List UInt8 → List UInt8 → List (List UInt8)
  | [], acc => [acc]
  | c :: r, acc => if c.toNat = 10 then acc :: sp r [] else sp r (acc ++ [c])
theorem info_str : (Try.prog.info? 9).map (fun i => (i.zero, i.size, i.bytes)) = some (some (.string ⟨#[]⟩), 1, 16) := by kernel_rfl
theorem ext_data (s : ByteArray) (a b : Nat) : (s.extract a b).data.toList = (s.data.toList.take b).drop a := by
  rw [ByteArray.data_extract]
  simp only [Array.toList_extract, List.extract_eq_take_drop]
  rw [List.drop_take]
theorem ext_self (s : ByteArray) (a : Nat) : (s.extract a a).data.toList = [] := by
  rw [ext_data]; simp
theorem ext_snoc (s : ByteArray) (a k : Nat) (hk : k < s.data.toList.length) (ha : a ≤ k) : (s.extract a (k + 1)).data.toList = (s.extract a k).data.toList ++ [s.data.toList[k]] := by
  rw [ext_data, ext_data, List.take_succ_eq_append_getElem hk, List.drop_append_of_le_length (by rw [List.length_take]; omega)]
set_option maxRecDepth 100000 in
set_option maxHeartbeats 4000000 in
theorem parts_any (s : ByteArray) (w : World) (hs : s.size ≤ 100000) :
    Calls Try.prog 14 #[.string s] w fun e w' => ∃ (v : Value) (zs : List ByteArray), e = .returned v ∧ Below w.heap.size w w' ∧ w'.ownsRow w.heap.size 9 1 v zs.length (zs.map .string) ∧ Hid (zs.map (fun z => z.data.toList) = sp s.data.toList []) := by
  go_enter Try.func14, Try.ntmps14
  go_wp2
  obtain ⟨i0, hi0, hz0', hz1, hz2⟩ := info_parts info_str
  go_loopw [3, 4, 5] (fun v f i wr => ∃ (k a : Nat) (zs : List ByteArray), i = .int .i64 k ∧ f = .int .i64 a ∧ zs.length ≤ k ∧ k ≤ s.size + 1 ∧ Hid (k ≤ s.size → a ≤ k ∧ sp s.data.toList [] = zs.map (fun z => z.data.toList) ++ sp (s.data.toList.drop k) (s.extract a k).data.toList) ∧ Hid (k = s.size + 1 → sp s.data.toList [] = zs.map (fun z => z.data.toList)) ∧ wr.ownsRow w.heap.size 9 1 v zs.length (zs.map .string) ∧ Below w.heap.size w wr)
    (fun _ _ i _ => s.size + 1 - (intOf i).toNat)
  case atStart => exact ⟨0, 0, [], rfl, rfl, Nat.le_refl _, Nat.zero_le _, hide (fun _ => ⟨Nat.le_refl _, by rw [ext_self]; rfl⟩), hide (fun h => by omega), ⟨rfl, .inl ⟨rfl, rfl⟩⟩, bl_refl w⟩
  case round =>
    obtain ⟨k, a, zs, rfl, rfl, hz, hk, HA, HB, hv, hbl⟩ := hrel
    by_cases hle : k ≤ s.size
    · obtain ⟨hak, hsp⟩ := HA.out hle
      have hbw : w.heap.size ≤ wr.heap.size := hbl.size
      by_cases heq : k = s.size
      · subst heq
        have HB2 : Hid (s.size + 1 = s.size + 1 → sp s.data.toList [] = (zs ++ [s.extract a s.size]).map (fun z => z.data.toList)) := hide (fun _ => by
          rw [hsp, List.drop_of_length_le (by rw [len_data]; omega)]; simp [sp])
        have HA2 : Hid (s.size + 1 ≤ s.size → s.size + 1 ≤ s.size + 1 ∧ sp s.data.toList [] = (zs ++ [s.extract a s.size]).map (fun z => z.data.toList) ++ sp (s.data.toList.drop (s.size + 1)) (s.extract (s.size + 1) (s.size + 1)).data.toList) := hide (fun h => by omega)
        clear HA HB hsp
        go_wp2_with (at_builtin; (refine wpList_push wr rfl _ _ 30 rfl w.heap.size 9 i0 (.string ⟨#[]⟩) 1 16 Try.underlying30 hi0 hz0' hz1 hz2 rfl (by decide) u3 zs.length (zs.map .string) rfl hv 1 #[.string (s.extract a s.size)] rfl rfl (by simp [Value.oneCell']) (by omega) (by decide) hbw ?_); intro v' w4 hv4 hg4 hat)
        have hbl4 : Below w.heap.size w w4 := bl_own hbl hv hg4 (Nat.le_refl _)
        have hv5 : w4.ownsRow w.heap.size 9 1 v' (zs ++ [s.extract a s.size]).length ((zs ++ [s.extract a s.size]).map .string) := by rw [List.map_append, List.length_append]; exact hv4
        have hl5 : (zs ++ [s.extract a s.size]).length ≤ s.size + 1 := by first | (simp; done) | (simp; omega)
        refine ⟨?_, by first | (simp [intOf]; done) | (simp [intOf]; omega)⟩
        first
          | exact ⟨s.size + 1, s.size + 1, zs ++ [s.extract a s.size], by go_num, by go_num, hl5, by omega, HA2, HB2, hv5, hbl4⟩
          | ((repeat apply Exists.intro); exact ⟨⟨s.size + 1, s.size + 1, zs ++ [s.extract a s.size], by go_num, by go_num, hl5, by omega, HA2, HB2, hv5, hbl4⟩, rfl⟩)
      · have e1 : ((k : Int) == (s.size : Int)) = false := by simp; omega
        have hlt : k < s.size := by omega
        have hkl : k < s.data.toList.length := by simpa using hlt
        have hsk : s.data.toList[k] = s[k] := rfl
        have hdr : s.data.toList.drop k = s[k] :: s.data.toList.drop (k + 1) := List.drop_eq_getElem_cons hkl
        have hsn := ext_snoc s a k hkl hak
        rw [hsk] at hsn
        have HB2 : ∀ zs2 : List ByteArray, Hid (k + 1 = s.size + 1 → sp s.data.toList [] = zs2.map (fun z => z.data.toList)) := fun _ => hide (fun h => by omega)
        by_cases hc : s[k].toNat = 10
        · have e2 : ((s[k].toNat : Int) == 10) = true := by simp; omega
          have HA2 : Hid (k + 1 ≤ s.size → k + 1 ≤ k + 1 ∧ sp s.data.toList [] = (zs ++ [s.extract a k]).map (fun z => z.data.toList) ++ sp (s.data.toList.drop (k + 1)) (s.extract (k + 1) (k + 1)).data.toList) := hide (fun _ => ⟨Nat.le_refl _, by
            rw [hsp, hdr, sp, if_pos hc, ext_self]; simp⟩)
          clear HA HB hsp hsn hdr hsk hc
          go_wp2_with (at_builtin; (refine wpList_push wr rfl _ _ 30 rfl w.heap.size 9 i0 (.string ⟨#[]⟩) 1 16 Try.underlying30 hi0 hz0' hz1 hz2 rfl (by decide) u3 zs.length (zs.map .string) rfl hv 1 #[.string (s.extract a k)] rfl rfl (by simp [Value.oneCell']) (by omega) (by decide) hbw ?_); intro v' w4 hv4 hg4 hat)
          have hbl4 : Below w.heap.size w w4 := bl_own hbl hv hg4 (Nat.le_refl _)
          have hv5 : w4.ownsRow w.heap.size 9 1 v' (zs ++ [s.extract a k]).length ((zs ++ [s.extract a k]).map .string) := by rw [List.map_append, List.length_append]; exact hv4
          have hl5 : (zs ++ [s.extract a k]).length ≤ k + 1 := by first | (simp; done) | (simp; omega)
          refine ⟨?_, by first | (simp [intOf]; done) | (simp [intOf]; omega)⟩
          first
            | exact ⟨k + 1, k + 1, zs ++ [s.extract a k], by go_num, by go_num, hl5, by omega, HA2, HB2 _, hv5, hbl4⟩
            | ((repeat apply Exists.intro); exact ⟨⟨k + 1, k + 1, zs ++ [s.extract a k], by go_num, by go_num, hl5, by omega, HA2, HB2 _, hv5, hbl4⟩, rfl⟩)
        · have e2 : ((s[k].toNat : Int) == 10) = false := by simp; omega
          have HA2 : Hid (k + 1 ≤ s.size → a ≤ k + 1 ∧ sp s.data.toList [] = zs.map (fun z => z.data.toList) ++ sp (s.data.toList.drop (k + 1)) (s.extract a (k + 1)).data.toList) := hide (fun _ => ⟨by omega, by
            rw [hsp, hdr, sp, if_neg hc, hsn]⟩)
          clear HA HB hsp hsn hdr hsk hc
          go_wp2
          refine ⟨?_, by first | (simp [intOf]; done) | (simp [intOf]; omega)⟩
          first
            | exact ⟨k + 1, a, zs, by go_num, rfl, by omega, by omega, HA2, HB2 _, hv, hbl⟩
            | ((repeat apply Exists.intro); exact ⟨⟨k + 1, a, zs, by go_num, rfl, by omega, by omega, HA2, HB2 _, hv, hbl⟩, rfl⟩)
    · have hend := HB.out (by omega)
      have HEND := hide hend.symm
      clear hend HA HB
      go_wp2
      go_ret
      exact ⟨_, zs, rfl, hbl, hv, HEND⟩
theorem sp_acc (l acc : List UInt8) : ∃ x r, sp l [] = x :: r ∧ sp l acc = (acc ++ x) :: r := by
  induction l generalizing acc with
  | nil => exact ⟨[], [], rfl, by simp [sp]⟩
  | cons c t ih =>
    by_cases hc : c.toNat = 10
    · exact ⟨[], sp t [], by rw [sp, if_pos hc], by rw [sp, if_pos hc, List.append_nil]⟩
    · obtain ⟨x, r, h1, h2⟩ := ih [c]
      obtain ⟨x', r', h1', h3⟩ := ih (acc ++ [c])
      rw [h1] at h1'
      cases h1'
      exact ⟨c :: x, r, by rw [sp, if_neg hc, List.nil_append, h2]; rfl, by rw [sp, if_neg hc, h3]; simp⟩
theorem sp_clean (l acc : List UInt8) (ha : ∀ c ∈ acc, ¬ c.toNat = 10) : ∀ x ∈ sp l acc, ∀ c ∈ x, ¬ c.toNat = 10 := by
  induction l generalizing acc with
  | nil => intro x hx; rw [sp, List.mem_singleton] at hx; subst hx; exact ha
  | cons c t ih =>
    rw [sp]
    by_cases hc : c.toNat = 10
    · rw [if_pos hc]
      intro x hx
      rcases List.mem_cons.1 hx with rfl | hx
      · exact ha
      · exact ih [] (by simp) x hx
    · rw [if_neg hc]
      exact ih (acc ++ [c]) (by
        intro d hd
        rcases List.mem_append.1 hd with h | h
        · exact ha d h
        · rw [List.mem_singleton] at h; subst h; exact hc)
theorem ad_clean (L U l : List UInt8) (h : ∀ c ∈ l, ¬ c.toNat = 10) : adL L U l false = l := by
  induction l with
  | nil => rfl
  | cons c t ih => rw [adL, if_neg (by simp), if_neg (h c (by simp)), ih (fun d hd => h d (by simp [hd]))]
theorem ad_none (l : List UInt8) (b : Bool) : adL [] [9] l b = l := by
  induction l generalizing b with
  | nil => rfl
  | cons c t ih =>
    rw [adL]
    by_cases h9 : c.toNat = 9 ∧ b = true
    · rw [if_pos h9, ih]
      have : c = 9 := by apply UInt8.toNat_inj.1; exact h9.1
      rw [this]; rfl
    · rw [if_neg h9]; split <;> rw [ih]; rfl
end Go.Proofs.Ytdlagabepilcfaa
