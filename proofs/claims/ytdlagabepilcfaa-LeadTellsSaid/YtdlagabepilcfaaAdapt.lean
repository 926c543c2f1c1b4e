/- Contract of the reference's Adapt. No condition but short texts. -/
import Derived.Test.YtdlagabepilcfaaLead
import Derived.Lib.AppendStr
import Derived.Test.YtdlagabepilcfaaArgs
namespace Go.Proofs.Ytdlagabepilcfaa
open Go.ChangeShapes Go.WideShapes Go.ChangeAt Go.RowKit
theorem info_u8 : (Try.prog.info? 5).map (fun i => (i.zero, i.size, i.bytes)) = some (some (.int .u8 0), 1, 1) := by kernel_rfl
def ARel (s L U : ByteArray) (w : World) (v bh i : Value) (wr : World) : Prop :=
  ∃ (k n : Nat) (t : Bool) (C : List UInt8), i = .int .i64 k ∧ bh = .bool t ∧ k ≤ s.size ∧ n ≤ 101 * k ∧ Hid (C.length = n) ∧ Hid (adL L.data.toList (unL U.data.toList) s.data.toList false = C ++ adL L.data.toList (unL U.data.toList) (s.data.toList.drop k) t) ∧ wr.ownsRow w.heap.size 5 1 v n (Lib.byteCells C) ∧ Below w.heap.size w wr
set_option maxRecDepth 100000 in
set_option maxHeartbeats 8000000 in
theorem radapt_any (s L U R : ByteArray) (w : World) (hs : s.size ≤ 1000) (hL : L.size ≤ 100) (hU : U.size ≤ 100) (hR : ⟨(adL L.data.toList (unL U.data.toList) s.data.toList false).toArray⟩ = R) :
    Calls Try.prog 12 #[.string s, .string L, .string U] w fun e w' => e = .returned (.string R) ∧ Below w.heap.size w w' := by
  obtain ⟨i0, hi0, hz0', hz1, hz2⟩ := info_parts info_u8
  have HR := hide hR
  clear hR
  go_enter Try.func12, Try.ntmps12
  go_wp2
  go_loopw [7, 8, 9] (fun v bh i wr => ARel s L U w v bh i wr) (fun _ _ i _ => s.size - (intOf i).toNat)
  case atStart => exact ⟨0, 0, false, [], rfl, rfl, Nat.zero_le _, Nat.zero_le _, hide rfl, hide (by simp), ⟨rfl, .inl ⟨rfl, rfl⟩⟩, bl_refl w⟩
  case round =>
    obtain ⟨k, n, t, C, rfl, rfl, hk, hnk, HC, HE, hv, hbl⟩ := hrel
    by_cases hlt : k < s.size
    · have hkl : k < s.data.toList.length := by rw [len_data]; exact hlt
      have hsk : s.data.toList[k] = s[k] := rfl
      have htab := ad_tab L.data.toList (unL U.data.toList) s.data.toList k hkl
      have hlf := ad_lf L.data.toList (unL U.data.toList) s.data.toList k t hkl
      have hel := ad_else L.data.toList (unL U.data.toList) s.data.toList k t hkl
      rw [hsk] at htab hlf hel
      obtain ⟨aV, cV, rfl⟩ := own_slice hv
      have hbw : w.heap.size ≤ wr.heap.size := hbl.size
      have fin : ∀ (v' : Value) (W : World) (t' : Bool) (n' : Nat) (D : List UInt8), n' ≤ n + 101 → (C ++ D).length = n' → adL L.data.toList (unL U.data.toList) (s.data.toList.drop k) t = D ++ adL L.data.toList (unL U.data.toList) (s.data.toList.drop (k + 1)) t' → W.ownsRow w.heap.size 5 1 v' n' (Lib.byteCells (C ++ D)) → Below w.heap.size w W → ARel s L U w v' (.bool t') (.int .i64 ((k : Int) + 1)) W :=
        fun v' W t' n' D h0 h1 h2 h3 h4 => ⟨k + 1, n', t', C ++ D, by go_num, rfl, by omega, by omega, hide h1, hide (by rw [HE.out, h2, List.append_assoc]), h3, h4⟩
      have FIN := hide fin
      have HTAB := hide htab
      have HLF := hide hlf
      have HEL := hide hel
      have hn : n ≤ 101000 := by omega
      have HV := hide hv
      have HCL := hide (show ∀ D : List UInt8, (C ++ D).length = n + D.length from fun D => by rw [List.length_append, HC.out])
      clear fin htab hlf hel HE hsk hv
      by_cases h10 : s[k].toNat = 10
      · have g9 : ((s[k].toNat : Int) == 9) = false := by simp; omega
        have g10 : ((s[k].toNat : Int) == 10) = true := by simp; omega
        have hst := HLF.out h10
        have e1 : Lib.byteCells (C ++ [s[k]]) = Lib.byteCells C ++ [.int .u8 (s[k].toNat : Int)] := byteCells_snoc C s[k]
        have e2 : Lib.byteCells (C ++ ([s[k]] ++ L.data.toList)) = Lib.byteCells (C ++ [s[k]]) ++ Lib.strCells L := by rw [← List.append_assoc]; exact byteCells_str _ _
        have HST := hide hst
        have E1 := hide e1
        have E2 := hide e2
        clear HTAB HEL HLF hst e1 e2 h10
        cases t
        all_goals
          go_wp2_with (first
            | (at_builtin; (refine wpList_push wr rfl (.tmp 43) (.tmp 47) 38 rfl w.heap.size 5 i0 (.int .u8 0) 1 1 Try.underlying38 hi0 hz0' hz1 hz2 rfl (by decide) (.slice aV n cV) n (Lib.byteCells C) rfl HV.out 1 #[.int .u8 (s[k].toNat : Int)] rfl rfl (by simp [Value.oneCell']) (by omega) (by decide) hbw ?_); intro v4 w4 hv4 hg4 hat4)
            | (at_builtin; (refine Lib.wpList_append_own_string _ rfl (.tmp 53) (.tmp 54) 38 9 rfl w.heap.size 5 i0 Try.underlying38 Try.underlying9 hi0 hz0' hz1 hz2 _ (n + 1) (Lib.byteCells C ++ [.int .u8 (s[k].toNat : Int)]) rfl (by assumption) L rfl (by unfold maxLen; omega) (by omega) (bl_own hbl HV.out (by assumption) (Nat.le_refl _)).size ?_); intro v5 w5 hv5 hg5 hat5; have hbl5 : Below w.heap.size w w5 := bl_own (bl_own hbl HV.out (by assumption) (Nat.le_refl _)) (by assumption) hg5 (Nat.le_refl _)))
          refine ⟨?_, by first | (simp [intOf]; done) | (simp [intOf]; omega)⟩
          refine FIN.out _ _ true (n + 1 + L.size) ([s[k]] ++ L.data.toList) (by omega) (by rw [HCL.out]; simp; omega) (by rw [HST.out]; rfl) ?_ hbl5
          rw [E2.out, E1.out]; exact hv5
      · have g10 : ((s[k].toNat : Int) == 10) = false := by simp; omega
        by_cases h9 : s[k].toNat = 9
        · have g9 : ((s[k].toNat : Int) == 9) = true := by simp; omega
          cases t
          · have hst := HEL.out h10 (by simp)
            have HST := hide hst
            have E1 := hide (byteCells_snoc C s[k])
            clear HTAB HEL HLF hst h9 h10
            go_wp2_with (at_builtin; (refine wpList_push wr rfl (.tmp 43) (.tmp 47) 38 rfl w.heap.size 5 i0 (.int .u8 0) 1 1 Try.underlying38 hi0 hz0' hz1 hz2 rfl (by decide) (.slice aV n cV) n (Lib.byteCells C) rfl HV.out 1 #[.int .u8 (s[k].toNat : Int)] rfl rfl (by simp [Value.oneCell']) (by omega) (by decide) hbw ?_); intro v4 w4 hv4 hg4 hat4)
            have hbl4 : Below w.heap.size w w4 := bl_own hbl HV.out hg4 (Nat.le_refl _)
            refine ⟨?_, by first | (simp [intOf]; done) | (simp [intOf]; omega)⟩
            exact FIN.out _ _ false (n + 1) [s[k]] (by omega) (by rw [HCL.out]; rfl) (by rw [HST.out]; rfl) (by rw [E1.out]; exact hv4) hbl4
          · have hst := HTAB.out h9
            by_cases hu : U.size = 0
            · have hne := e_bytes U hu
              have hul : unL U.data.toList = [9] := by
                have : U.data.toList = [] := List.eq_nil_of_length_eq_zero (by rw [len_data]; exact hu)
                rw [this]; rfl
              have hc9 : s[k] = 9 := UInt8.toNat_inj.1 h9
              have HST := hide (show adL L.data.toList (unL U.data.toList) (s.data.toList.drop k) true = [s[k]] ++ adL L.data.toList (unL U.data.toList) (s.data.toList.drop (k + 1)) true by rw [hst, hul, hc9])
              have E1 := hide (byteCells_snoc C s[k])
              clear HTAB HEL HLF hst h9 h10 hul hc9
              go_wp2_with (at_builtin; (refine wpList_push wr rfl (.tmp 43) (.tmp 47) 38 rfl w.heap.size 5 i0 (.int .u8 0) 1 1 Try.underlying38 hi0 hz0' hz1 hz2 rfl (by decide) (.slice aV n cV) n (Lib.byteCells C) rfl HV.out 1 #[.int .u8 (s[k].toNat : Int)] rfl rfl (by simp [Value.oneCell']) (by omega) (by decide) hbw ?_); intro v4 w4 hv4 hg4 hat4)
              have hbl4 : Below w.heap.size w w4 := bl_own hbl HV.out hg4 (Nat.le_refl _)
              refine ⟨?_, by first | (simp [intOf]; done) | (simp [intOf]; omega)⟩
              exact FIN.out _ _ true (n + 1) [s[k]] (by omega) (by rw [HCL.out]; rfl) HST.out (by rw [E1.out]; exact hv4) hbl4
            · have hne := ne_bytes U (by omega)
              have hul : unL U.data.toList = U.data.toList := by
                unfold unL; rw [if_neg]; intro e
                have := congrArg List.length e
                rw [len_data] at this; exact hu (by simpa using this)
              have HST := hide (show adL L.data.toList (unL U.data.toList) (s.data.toList.drop k) true = U.data.toList ++ adL L.data.toList (unL U.data.toList) (s.data.toList.drop (k + 1)) true by rw [hst, hul])
              have E1 := hide (byteCells_str C U)
              clear HTAB HEL HLF hst h9 h10 hul
              go_wp2_with (at_builtin; (refine Lib.wpList_append_own_string wr rfl (.tmp 27) (.tmp 28) 38 9 rfl w.heap.size 5 i0 Try.underlying38 Try.underlying9 hi0 hz0' hz1 hz2 (.slice aV n cV) n (Lib.byteCells C) rfl HV.out U rfl (by unfold maxLen; omega) (by omega) hbw ?_); intro v4 w4 hv4 hg4 hat4)
              have hbl4 : Below w.heap.size w w4 := bl_own hbl HV.out hg4 (Nat.le_refl _)
              refine ⟨?_, by first | (simp [intOf]; done) | (simp [intOf]; omega)⟩
              exact FIN.out _ _ true (n + U.size) U.data.toList (by omega) (by rw [HCL.out, len_data]) HST.out (by rw [E1.out]; exact hv4) hbl4
        · have g9 : ((s[k].toNat : Int) == 9) = false := by simp; omega
          have hst := HEL.out h10 (fun h => h9 h.1)
          have HST := hide hst
          have E1 := hide (byteCells_snoc C s[k])
          clear HTAB HEL HLF hst h9 h10
          cases t
          all_goals
            go_wp2_with (at_builtin; (refine wpList_push wr rfl (.tmp 43) (.tmp 47) 38 rfl w.heap.size 5 i0 (.int .u8 0) 1 1 Try.underlying38 hi0 hz0' hz1 hz2 rfl (by decide) (.slice aV n cV) n (Lib.byteCells C) rfl HV.out 1 #[.int .u8 (s[k].toNat : Int)] rfl rfl (by simp [Value.oneCell']) (by omega) (by decide) hbw ?_); intro v4 w4 hv4 hg4 hat4)
            have hbl4 : Below w.heap.size w w4 := bl_own hbl HV.out hg4 (Nat.le_refl _)
            refine ⟨?_, by first | (simp [intOf]; done) | (simp [intOf]; omega)⟩
            exact FIN.out _ _ false (n + 1) [s[k]] (by omega) (by rw [HCL.out]; rfl) (by rw [HST.out]; rfl) (by rw [E1.out]; exact hv4) hbl4
    · obtain rfl : k = s.size := by omega
      have hE := HE.out
      rw [show s.data.toList.drop s.size = [] from List.drop_of_length_le (by rw [len_data]; omega), show adL L.data.toList (unL U.data.toList) [] t = [] from rfl, List.append_nil] at hE
      have hR := HR.out
      rw [hE] at hR
      have hn := HC.out
      subst hn
      rcases own_form hv with ⟨rfl, h0, _⟩ | ⟨g, c, rfl, hg1, hg2, hg3, hg4, hg5⟩
      · have hC : C = [] := List.eq_nil_of_length_eq_zero h0
        subst hC
        have HR2 := hide hR
        have hback : (convert 38 9 (.slice none 0 0)).run Try.prog wr = .ok (.string ⟨#[]⟩) wr := by
          rw [Go.run_convert_bytes_string wr 38 9 5 none 0 0 Try.underlying38 Try.underlying5 Try.underlying9]; rfl
        clear hv hE hR HR HE HC hlt h0
        go_wp2
        go_ret
        exact ⟨by rw [← HR2.out]; rfl, hbl⟩
      · have hback := Go.run_convert_bytes_back wr 38 9 5 ⟨g, 0, none⟩ c C Try.underlying38 Try.underlying5 Try.underlying9 (fun j hj => by
          rw [addr_add, Nat.zero_add]
          exact hg5 j _ (by simp [Lib.byteCells, hj]))
        rw [hR] at hback
        clear hv hE hR HR HE HC hlt hg5
        go_wp2
        go_ret
        exact ⟨rfl, hbl⟩
end Go.Proofs.Ytdlagabepilcfaa
