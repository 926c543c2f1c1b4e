/- Contract: the reference's text with backslashes (gimletref18.Guard). Condition: a text that is not too long. -/
import Derived.Test.YtbphckblbbbakaaDoorShoB
import Derived.Test.YtbphckblbbbakaaDoorFmK
namespace Go.Proofs.YtbphckblbbbakaaDoor
open Go.ChangeShapes Go.WideShapes Go.ChangeAt Go.RowKit
attribute [local go_sem ↓] Go.wp_at_zero Go.wp_at_succ
set_option maxRecDepth 100000
set_option linter.unusedVariables false
theorem take_mem (l : List UInt8) (j : Nat) (h : j < l.length) (c : UInt8) : c ∈ l.take (j + 1) ↔ c ∈ l.take j ∨ l[j] = c := by
  rw [List.take_succ_eq_append_getElem h, List.mem_append, List.mem_singleton]
  constructor
  · rintro (h | h)
    · exact .inl h
    · exact .inr h.symm
  · rintro (h | h)
    · exact .inl h
    · exact .inr h.symm
theorem nodup_take (l : List UInt8) (hn : l.Nodup) (j : Nat) (h : j < l.length) : l[j] ∉ l.take j := by
  intro hm
  obtain ⟨i, hi, he⟩ := List.getElem_of_mem hm
  rw [List.length_take] at hi
  rw [List.getElem_take] at he
  exact (List.pairwise_iff_getElem.1 hn) i j (by omega) h (by omega) he
/-- What the inner loop has put in so far. -/
def inF (El : List UInt8) (j : Nat) (c : UInt8) : List UInt8 := if c ∈ El.take j then [92] else []
set_option maxHeartbeats 8000000 in
theorem rguard_any (s E : ByteArray) (hE : E.data.toList.Nodup) (X : ByteArray) (hX : mkB (guardF E.data.toList s.data.toList) = X) (w : World) (hs : s.size ≤ 100000) (hEz : E.size ≤ 100) : Calls Tryd.prog 24 #[.string s, .string E] w fun e w' => e = .returned (.string X) ∧ Below w.heap.size w w' := by
  obtain ⟨i0, hi0, hz0', hz1, hz2⟩ := info_parts info_by
  have HX := hide hX
  have HND := hide hE
  clear hX hE
  go_enter Tryd.func24, Tryd.ntmps24
  go_wp2
  go_loopw [5, 6] (fun v i wr => ∃ (k : Nat) (out : List UInt8), i = .int .i64 k ∧ k ≤ s.size ∧ out.length ≤ 2 * k ∧ Hid (guardF E.data.toList (s.data.toList.take k) = out) ∧ Hid (wr.ownsRow w.heap.size 5 1 v out.length (Lib.byteCells out)) ∧ Hid (Below w.heap.size w wr)) (fun _ i _ => s.size - (intOf i).toNat)
  case atStart => exact ⟨0, [], rfl, Nat.zero_le _, Nat.zero_le _, hide rfl, hide (World.ownsRow_nil _ _ _ _), hide (bl_refl w)⟩
  case round =>
    obtain ⟨k, out, rfl, hk, ho, HJ, HO, HB⟩ := hrel
    by_cases hlt : k < s.size
    · have hsn := guard_snoc E.data.toList (s.data.toList.take k) s[k]
      rw [← take_snoc' s k hlt, HJ.out] at hsn
      obtain ⟨c, hc⟩ : ∃ c, s[k] = c := ⟨_, rfl⟩
      rw [hc] at hsn
      have hsc : (s[k].toNat : Int) = c.toNat := by rw [hc]
      have gl : decide ((k : Int) < (s.size : Int)) = true := decide_eq_true (by omega)
      have gl' : decide (k < s.size) = true := decide_eq_true hlt
      have e5 : IntKind.i64.wrap ((k : Int) + 1) = (k : Int) + 1 := by rw [IntKind.wrap_i64]; omega
      have i1 : (0 : Int) ≤ (k : Int) := by omega
      have i2 : (k : Int) < (s.size : Int) := by omega
      have HSN := hide (show guardF E.data.toList (s.data.toList.take (k + 1)) = out ++ inF E.data.toList E.data.toList.length c ++ [c] by
        rw [hsn]; unfold inF; rw [List.take_length]; split <;> simp)
      clear hsn hc
      go_wp2
      go_loopw [5, 7] (fun v j wq => ∃ (m : Nat), j = .int .i64 m ∧ m ≤ E.size ∧ Hid (wq.ownsRow w.heap.size 5 1 v (out ++ inF E.data.toList m c).length (Lib.byteCells (out ++ inF E.data.toList m c))) ∧ Hid (Below w.heap.size w wq)) (fun _ j _ => E.size - (intOf j).toNat)
      case atStart => exact ⟨0, rfl, Nat.zero_le _, by unfold inF; simp; exact HO, HB⟩
      case round =>
        obtain ⟨m, rfl, hm, HO2, HB2⟩ := hrel
        have hlen : E.data.toList.length = E.size := Array.length_toList
        by_cases hmt : m < E.size
        · have hmem := take_mem E.data.toList m (by omega) c
          have hno := nodup_take E.data.toList HND.out m (by omega)
          obtain ⟨x, hx⟩ : ∃ x, E[m] = x := ⟨_, rfl⟩
          have hx2 : E.data.toList[m] = x := hx
          rw [hx2] at hmem hno
          have hsx : (E[m].toNat : Int) = x.toNat := by rw [hx]
          have gm : decide ((m : Int) < (E.size : Int)) = true := decide_eq_true (by omega)
          have gm' : decide (m < E.size) = true := decide_eq_true hmt
          have e6 : IntKind.i64.wrap ((m : Int) + 1) = (m : Int) + 1 := by rw [IntKind.wrap_i64]; omega
          have j1 : (0 : Int) ≤ (m : Int) := by omega
          have j2 : (m : Int) < (E.size : Int) := by omega
          by_cases hxc : x = c
          · have z : ((x.toNat : Int) == (c.toNat : Int)) = true := by rw [hxc]; simp
            have hin0 : inF E.data.toList m c = [] := by unfold inF; rw [if_neg (by rw [← hxc]; exact hno)]
            have hin1 : inF E.data.toList (m + 1) c = [92] := by unfold inF; rw [if_pos (hmem.2 (.inr hxc))]
            rw [hin0, List.append_nil] at HO2
            have HI1 := hide hin1
            clear hmem hno hx hx2 hxc hin0 hin1
            have hown := HO2.out
            obtain ⟨aV, cV, rfl⟩ := own_slice hown
            have hsz := HB2.out.size
            go_wp2
            go_quiet (fail)
            have HO3 := hide (own_below hown (bl_drewN (bl_refl _) nq))
            have HB3 := hide (bl_drewN HB2.out nq)
            clear hown
            go_wp2_with (at_builtin; (refine wpList_push _ (by rfl) (.tmp 27) (.tmp 28) 43 (by rfl) w.heap.size 5 i0 (.int .u8 0) 1 1 Tryd.underlying43 hi0 hz0' hz1 hz2 rfl (by decide) _ out.length (Lib.byteCells out) (by rfl) HO3.out 1 #[.int .u8 92] (by rfl) (by rfl) (by simp [Value.oneCell']) (by omega) (by decide) HB3.out.size ?_); intro v4 w4 hv4 hg4 hat4; have HO4 := hide hv4; have HB4 := hide (bl_own HB3.out HO3.out hg4 (Nat.le_refl _)); clear hv4 hg4 hat4)
            refine ⟨?_, by first | (simp [intOf]; done) | (simp [intOf]; omega)⟩
            have HO5 : Hid (w4.ownsRow w.heap.size 5 1 v4 (out ++ inF E.data.toList (m + 1) c).length (Lib.byteCells (out ++ inF E.data.toList (m + 1) c))) := by
              rw [HI1.out, List.length_append, byteCells_one]; exact HO4
            first
              | exact ⟨m + 1, by go_num, by omega, HO5, HB4⟩
              | ((repeat apply Exists.intro); exact ⟨⟨m + 1, by go_num, by omega, HO5, HB4⟩, rfl⟩)
          · have z : ((x.toNat : Int) == (c.toNat : Int)) = false := beq_eq_false_iff_ne.2 (fun q => hxc (UInt8.toNat_inj.1 (by omega)))
            have hin : inF E.data.toList (m + 1) c = inF E.data.toList m c := by
              unfold inF
              by_cases h : c ∈ E.data.toList.take m
              · rw [if_pos h, if_pos (hmem.2 (.inl h))]
              · rw [if_neg h, if_neg (fun q => (hmem.1 q).elim h hxc)]
            rw [← hin] at HO2
            clear hmem hno hx hx2 hxc hin
            go_wp2
            go_quiet (fail)
            have HO3 := hide (own_below HO2.out (bl_drewN (bl_refl _) nq))
            have HB3 := hide (bl_drewN HB2.out nq)
            go_wp2
            refine ⟨?_, by first | (simp [intOf]; done) | (simp [intOf]; omega)⟩
            first
              | exact ⟨m + 1, by go_num, by omega, HO3, HB3⟩
              | ((repeat apply Exists.intro); exact ⟨⟨m + 1, by go_num, by omega, HO3, HB3⟩, rfl⟩)
        · obtain rfl : m = E.size := by omega
          have gm : decide ((E.size : Int) < (E.size : Int)) = false := by simp
          have gm' : decide (E.size < E.size) = false := by simp
          have hzo : (inF E.data.toList E.size c).length ≤ 1 := by unfold inF; split <;> simp
          have hsn := HSN.out
          rw [hlen] at hsn
          have HJ2 := hide hsn
          obtain ⟨Z, hZ⟩ : ∃ Z, out ++ inF E.data.toList E.size c = Z := ⟨_, rfl⟩
          rw [hZ] at HO2 HJ2
          have hzl : Z.length ≤ 2 * k + 1 := by rw [← hZ, List.length_append]; omega
          have HLN := hide (show (Z ++ [c]).length ≤ 2 * (k + 1) by simp; omega)
          have hown := HO2.out
          obtain ⟨aV, cV, rfl⟩ := own_slice hown
          clear hsn hZ hzo hmt
          go_wp2_with (at_builtin; (refine wpList_push _ (by rfl) (.tmp 30) (.tmp 34) 43 (by rfl) w.heap.size 5 i0 (.int .u8 0) 1 1 Tryd.underlying43 hi0 hz0' hz1 hz2 rfl (by decide) _ Z.length (Lib.byteCells Z) (by rfl) HO2.out 1 #[.int .u8 (c.toNat : Int)] (by rfl) (by rfl) (by simp [Value.oneCell']) (by omega) (by decide) HB2.out.size ?_); intro v4 w4 hv4 hg4 hat4; have HO4 := hide hv4; have HB4 := hide (bl_own HB2.out HO2.out hg4 (Nat.le_refl _)); clear hv4 hg4 hat4)
          refine ⟨?_, by first | (simp [intOf]; done) | (simp [intOf]; omega)⟩
          have HO5 : Hid (w4.ownsRow w.heap.size 5 1 v4 (Z ++ [c]).length (Lib.byteCells (Z ++ [c]))) := by
            rw [List.length_append, byteCells_one]; exact HO4
          first
            | exact ⟨k + 1, Z ++ [c], by go_num, by omega, HLN.out, HJ2, HO5, HB4⟩
            | ((repeat apply Exists.intro); exact ⟨⟨k + 1, Z ++ [c], by go_num, by omega, HLN.out, HJ2, HO5, HB4⟩, rfl⟩)
    · obtain rfl : k = s.size := by omega
      have gl : decide ((s.size : Int) < (s.size : Int)) = false := by simp
      have gl' : decide (s.size < s.size) = false := by simp
      have hj := HJ.out
      rw [List.take_of_length_le (by simp)] at hj
      have hcv := own_conv HO.out
      rw [← hj, HX.out] at hcv
      have hown := HO.out
      obtain ⟨aV, cV, rfl⟩ := own_slice hown
      clear hj hlt hown
      go_wp2
      go_ret
      exact ⟨rfl, HB.out⟩
end Go.Proofs.YtbphckblbbbakaaDoor
